"""Algebras of routes: elements with levels, of which a lesser one is better, and functions that change them."""

from routeweb.checks import are_numbers, is_number, is_tuple
from routeweb.errors import BadAlgebra, BadElement, BadUnion, BadWord, NotAlgebra, TooMany

MOST_ITEMS = 64
MOST_LEVEL = 4095
MOST_WORD = 20
# What is denied counts as a level above all.
DENIED_LEVEL = 4096


class Algebra:
    """A level for each element, and functions: tables with an element or None for each element."""

    def __init__(self, levels, functions):
        if not is_tuple(levels, 1, MOST_ITEMS) or not are_numbers(levels, 0, MOST_LEVEL):
            raise BadAlgebra(None)
        if not is_tuple(functions, 1, MOST_ITEMS):
            raise BadAlgebra(None)
        for index, table in enumerate(functions):
            if not _is_table(table, len(levels)):
                raise BadAlgebra(index)
        self._levels = levels
        self._functions = functions

    @property
    def levels(self):
        """The tuple of the levels of the elements."""
        return self._levels

    @property
    def functions(self):
        """The tuple of the tables of the functions."""
        return self._functions

    def __eq__(self, other):
        return isinstance(other, Algebra) and self._levels == other._levels and self._functions == other._functions


def _is_table(value, many):
    if not is_tuple(value, many, many):
        return False
    return all([item is None or is_number(item, 0, many - 1) for item in value])


def check_algebra(algebra):
    """Raise NotAlgebra for a value that is no algebra."""
    if not isinstance(algebra, Algebra):
        raise NotAlgebra("no algebra")


def followed(algebra, word, element):
    """What the functions of a word make of an element, one after another; None if one denies it."""
    check_algebra(algebra)
    if not is_tuple(word, 0, MOST_WORD):
        raise BadWord(None)
    for index, function in enumerate(word):
        if not is_number(function, 0, len(algebra.functions) - 1):
            raise BadWord(index)
    if not is_number(element, 0, len(algebra.levels) - 1):
        raise BadElement("no element of the algebra")
    made = element
    for function in word:
        if made is not None:
            made = algebra.functions[function][made]
    return made


def _levels_after(algebra, function):
    """The levels of what a function makes of each element."""
    table = algebra.functions[function]
    return [DENIED_LEVEL if made is None else algebra.levels[made] for made in table]


def _least_pair(algebra, is_break):
    """The least (f, a) with a break, asked of the levels of a and f(a)."""
    check_algebra(algebra)
    for function in range(len(algebra.functions)):
        after = _levels_after(algebra, function)
        for first, level in enumerate(algebra.levels):
            if is_break(level, after[first]):
                return (function, first)
    return None


def _least_triple(algebra, is_break):
    """The least (f, a, b) with a break, asked of the levels of a, b, f(a) and f(b)."""
    check_algebra(algebra)
    for function in range(len(algebra.functions)):
        after = _levels_after(algebra, function)
        for first, level in enumerate(algebra.levels):
            for second, other in enumerate(algebra.levels):
                if is_break(level, other, after[first], after[second]):
                    return (function, first, second)
    return None


def growing_break(algebra):
    """The least (f, a) such that f makes a better."""
    return _least_pair(algebra, lambda a, fa: fa < a)


def strict_break(algebra):
    """The least (f, a) such that f does not make a worse."""
    return _least_pair(algebra, lambda a, fa: fa <= a)


def isotone_break(algebra):
    """The least (f, a, b) such that a is at least as good as b, but worse behind f."""
    return _least_triple(algebra, lambda a, b, fa, fb: a <= b and fa > fb)


def cancelling_break(algebra):
    """The least (f, a, b) such that a is better than b, f(b) is not denied, and f(a) is not better than it."""
    return _least_triple(algebra, lambda a, b, fa, fb: a < b and fb < DENIED_LEVEL and fa >= fb)


def constant_break(algebra):
    """The least (f, a, b) with unlike levels of f(a) and f(b)."""
    return _least_triple(algebra, lambda a, b, fa, fb: fa != fb)


def even_break(algebra):
    """The least (f, a, b) such that f denies b, but not a."""
    return _least_triple(algebra, lambda a, b, fa, fb: fa < DENIED_LEVEL and fb == DENIED_LEVEL)


def does_deny(algebra):
    """Whether all functions deny all elements."""
    check_algebra(algebra)
    return all([made is None for table in algebra.functions for made in table])


def has_steps(algebra):
    """Whether some function does not deny an element that is worse than another one."""
    check_algebra(algebra)
    best = min(algebra.levels)
    worse = [element for element, level in enumerate(algebra.levels) if level > best]
    return any([table[element] is not None for table in algebra.functions for element in worse])


def _check_two(one, other):
    check_algebra(one)
    check_algebra(other)


def _check_many(many):
    if many > MOST_ITEMS:
        raise TooMany(MOST_ITEMS)


def _places(algebra):
    """For each element the number of unlike levels below its own."""
    unlike = sorted(set(algebra.levels))
    return [unlike.index(level) for level in algebra.levels]


def _pair_levels(one, other):
    """The levels of the pairs of elements: that of one decides first."""
    many = len(set(other.levels))
    return tuple([first * many + second for first in _places(one) for second in _places(other)])


def _pair_table(one_table, other_table):
    """The table that makes of a pair what two tables make of its parts, denied if either is."""
    many = len(other_table)
    pairs = [(first, second) for first in one_table for second in other_table]
    return tuple([None if first is None or second is None else first * many + second for first, second in pairs])


def lexicographic(one, other):
    """The algebra of pairs, each function of one together with each function of other."""
    _check_two(one, other)
    _check_many(len(one.levels) * len(other.levels))
    _check_many(len(one.functions) * len(other.functions))
    tables = [_pair_table(table, second) for table in one.functions for second in other.functions]
    return Algebra(_pair_levels(one, other), tuple(tables))


def scoped(one, other):
    """The algebra of pairs whose functions change the first part and set the second one, or change the second alone."""
    _check_two(one, other)
    many = len(other.levels)
    _check_many(len(one.levels) * many)
    _check_many(len(one.functions) * many + len(other.functions))
    tables = [_pair_table(table, (element,) * many) for table in one.functions for element in range(many)]
    kept = tuple(range(len(one.levels)))
    tables += [_pair_table(kept, table) for table in other.functions]
    return Algebra(_pair_levels(one, other), tuple(tables))


def united(one, other):
    """The algebra with the levels of both and the functions of one, then of other."""
    _check_two(one, other)
    if one.levels != other.levels:
        raise BadUnion("unlike levels")
    _check_many(len(one.functions) + len(other.functions))
    return Algebra(one.levels, one.functions + other.functions)
