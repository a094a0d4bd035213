"""Points 6 to 10: algebras, words, breaks, and algebras made of two."""

import itertools
import random
import unittest

from routeweb.algebras import (
    Algebra, cancelling_break, constant_break, does_deny, even_break, followed, growing_break, has_steps,
    isotone_break, lexicographic, scoped, strict_break, united,
)
from routeweb.errors import BadAlgebra, BadElement, BadUnion, BadWord, NotAlgebra, TooMany
from tests.values import NO_INTEGERS, NO_OBJECTS, NO_TUPLES, Raises

HOPS = Algebra((0, 1, 2), ((1, 2, None),))
PAIR_BREAKS = (growing_break, strict_break)
TRIPLE_BREAKS = (isotone_break, cancelling_break, constant_break, even_break)


def same(many):
    return tuple(range(many))


def some_algebras(many):
    made = random.Random(many)
    for _ in range(many):
        size = made.choice((1, 2, 2, 3, 3))
        made_of = [None] * made.choice((0, 1, 1, 3)) + list(range(size))
        tables = [tuple(made.choice(made_of) for _ in range(size)) for _ in range(made.choice((1, 2)))]
        yield Algebra(tuple(made.choice((0, 7, 4095)) for _ in range(size)), tuple(tables))


def level(algebra, made):
    return 10 ** 9 if made is None else algebra.levels[made]


def breaks_by_definition(algebra):
    """The least tuples of the six breaks, in the order of the calls."""
    first = {}
    numbers = range(len(algebra.levels))
    for index, table in enumerate(algebra.functions):
        for a in numbers:
            low, made = level(algebra, a), level(algebra, table[a])
            first.setdefault("growing", (index, a)) if made < low else None
            first.setdefault("strict", (index, a)) if not made > low else None
            for b in numbers:
                other, gone = level(algebra, b), level(algebra, table[b])
                found = {
                    "isotone": low <= other and made > gone,
                    "cancelling": low < other and table[b] is not None and not made < gone,
                    "constant": made != gone,
                    "even": table[b] is None and table[a] is not None,
                }
                for name in found:
                    first.setdefault(name, (index, a, b)) if found[name] else None
    return [first.get(name) for name in ("growing", "strict", "isotone", "cancelling", "constant", "even")]


class AlgebraTest(Raises, unittest.TestCase):
    def test_properties(self):
        algebra = Algebra((5, 5, 0), ((2, None, 0), (0, 1, 2)))
        self.assertEqual(algebra.levels, (5, 5, 0))
        self.assertEqual(algebra.functions, ((2, None, 0), (0, 1, 2)))

    def test_limits(self):
        self.assertEqual(Algebra((4095,), ((None,),)).levels, (4095,))
        algebra = Algebra((0,) * 64, (same(64),) * 64)
        self.assertEqual((len(algebra.levels), len(algebra.functions)), (64, 64))

    def test_equal(self):
        self.assertTrue(HOPS == Algebra((0, 1, 2), ((1, 2, None),)))
        self.assertFalse(HOPS != Algebra((0, 1, 2), ((1, 2, None),)))
        self.assertFalse(HOPS == Algebra((0, 1, 3), ((1, 2, None),)))
        self.assertFalse(HOPS == Algebra((0, 1, 2), ((1, 2, 2),)))
        for other in NO_OBJECTS:
            self.assertFalse(HOPS == other)

    def test_wrong_levels(self):
        wrong = [(), (0,) * 65, (-1,), (4096,), (0, 10 ** 30), *NO_TUPLES]
        for levels in wrong + [(0, value) for value in NO_INTEGERS]:
            self.assert_error(BadAlgebra, Algebra, levels, ((0,),), index=None)
            self.assert_error(BadAlgebra, Algebra, levels, (None,), index=None)

    def test_wrong_tuple_of_functions(self):
        for functions in ((), ((0,),) * 65, *NO_TUPLES):
            self.assert_error(BadAlgebra, Algebra, (0,), functions, index=None)

    def test_wrong_table(self):
        wrong = [(), (0,), (0, 1, 0), (0, 2), (-1, 0), (0, 10 ** 30), *NO_TUPLES]
        for table in wrong + [(0, value) for value in NO_INTEGERS if value is not None]:
            self.assert_error(BadAlgebra, Algebra, (0, 1), (table,), index=0)
            self.assert_error(BadAlgebra, Algebra, (0, 1), ((0, 1), (None, 1), table, ()), index=2)


class FollowedTest(Raises, unittest.TestCase):
    ALGEBRA = Algebra((0, 1, 2), ((1, 2, None), (0, None, 0)))

    def test_one_after_another(self):
        self.assertEqual(followed(self.ALGEBRA, (0,), 0), 1)
        self.assertEqual(followed(self.ALGEBRA, (0, 0), 0), 2)
        self.assertEqual(followed(self.ALGEBRA, (0, 0, 1), 0), 0)
        self.assertEqual(followed(self.ALGEBRA, (1, 0), 2), 1)

    def test_empty_word(self):
        self.assertEqual([followed(self.ALGEBRA, (), element) for element in (0, 1, 2)], [0, 1, 2])

    def test_denied(self):
        self.assertIsNone(followed(self.ALGEBRA, (0, 1), 0))
        self.assertIsNone(followed(self.ALGEBRA, (0, 1, 1, 0), 0))
        self.assertIsNone(followed(self.ALGEBRA, (0,), 2))

    def test_words_of_20(self):
        self.assertEqual(followed(self.ALGEBRA, (0, 0, 1, 1) * 5, 0), 0)
        self.assert_error(BadWord, followed, self.ALGEBRA, (0, 0, 1) * 7, 0, index=None)

    def test_errors_in_order(self):
        for value in NO_OBJECTS:
            self.assert_error(NotAlgebra, followed, value, None, None)
        for word in NO_TUPLES:
            self.assert_error(BadWord, followed, self.ALGEBRA, word, None, index=None)
        for item in (2, -1, *NO_INTEGERS):
            self.assert_error(BadWord, followed, self.ALGEBRA, (0, 1, item, 9), None, index=2)
        for element in (3, -1, *NO_INTEGERS):
            self.assert_error(BadElement, followed, self.ALGEBRA, (0, 1), element)
            self.assert_error(BadElement, followed, self.ALGEBRA, (), element)


class BreaksTest(Raises, unittest.TestCase):
    def test_example(self):
        self.assertEqual([strict_break(HOPS), isotone_break(HOPS)], [None, None])
        self.assertEqual(strict_break(Algebra((0, 1), ((1, 1),))), (0, 1))

    def test_growing(self):
        self.assertEqual(growing_break(Algebra((3, 1, 3), ((0, 2, 1), (1, 1, 1)))), (0, 2))
        self.assertEqual(growing_break(Algebra((3, 1, 3), ((2, 1, 0), (2, 1, 1)))), (1, 2))
        self.assertIsNone(growing_break(Algebra((3, 1, 3), ((2, 0, None), (0, 1, 2)))))

    def test_strict(self):
        self.assertEqual(strict_break(Algebra((3, 1, 3), ((None, 0, 2), (1, 1, 1)))), (0, 2))
        self.assertEqual(strict_break(Algebra((3, 1, 3), ((None, 0, None), (None, 2, 1)))), (1, 2))
        self.assertIsNone(strict_break(Algebra((3, 1, 3), ((None, 0, None), (None, 2, None)))))

    def test_isotone(self):
        self.assertEqual(isotone_break(Algebra((0, 1, 2), ((1, 1, 2), (1, 2, 0)))), (1, 0, 2))
        # Of two elements with one level neither may be worse behind f.
        self.assertEqual(isotone_break(Algebra((1, 1), ((0, None),))), (0, 1, 0))
        self.assertEqual(isotone_break(Algebra((0, 1), ((None, 1),))), (0, 0, 1))
        self.assertIsNone(isotone_break(Algebra((0, 1), ((0, None), (None, None), (1, 1)))))

    def test_cancelling(self):
        self.assertEqual(cancelling_break(Algebra((0, 1, 1), ((0, 2, 2), (1, 1, 2)))), (1, 0, 1))
        self.assertEqual(cancelling_break(Algebra((0, 1), ((None, 0),))), (0, 0, 1))
        self.assertEqual(cancelling_break(Algebra((1, 0), ((0, 0),))), (0, 1, 0))
        self.assertIsNone(cancelling_break(Algebra((0, 1, 1), ((0, 1, 2), (2, None, None), (None, None, None)))))

    def test_constant(self):
        self.assertEqual(constant_break(Algebra((0, 1, 1), ((1, 2, 1), (2, 1, 0)))), (1, 0, 2))
        self.assertEqual(constant_break(Algebra((0, 1), ((None, 1),))), (0, 0, 1))
        self.assertIsNone(constant_break(Algebra((0, 1, 1), ((1, 2, 1), (None, None, None)))))

    def test_even(self):
        self.assertEqual(even_break(Algebra((0, 1, 1), ((None, None, None), (None, 0, None)))), (1, 1, 0))
        self.assertEqual(even_break(Algebra((0, 0), ((0, None),))), (0, 0, 1))
        self.assertIsNone(even_break(Algebra((0, 1), ((None, None), (1, 0)))))

    def test_does_deny(self):
        self.assertIs(does_deny(Algebra((0, 1), ((None, None), (None, None)))), True)
        self.assertIs(does_deny(Algebra((0, 1), ((None, None), (None, 1)))), False)
        self.assertIs(does_deny(Algebra((0,), ((0,),))), False)

    def test_has_steps(self):
        self.assertIs(has_steps(Algebra((0, 1), ((None, None), (None, 0)))), True)
        self.assertIs(has_steps(Algebra((0, 1), ((0, None), (1, None)))), False)
        self.assertIs(has_steps(Algebra((3, 3), ((0, 1),))), False)
        self.assertIs(has_steps(Algebra((3, 2), ((0, 1),))), True)

    def test_denied_is_above_the_greatest_level(self):
        algebra = Algebra((4095,), ((None,),))
        self.assertIsNone(strict_break(algebra))
        self.assertEqual(constant_break(Algebra((4095, 0), ((0, None),))), (0, 0, 1))

    def test_by_definition(self):
        for algebra in some_algebras(400):
            found = [call(algebra) for call in (*PAIR_BREAKS, *TRIPLE_BREAKS)]
            self.assertEqual(found, breaks_by_definition(algebra))

    def test_no_algebra(self):
        for call in (*PAIR_BREAKS, *TRIPLE_BREAKS, does_deny, has_steps):
            for value in NO_OBJECTS:
                self.assert_error(NotAlgebra, call, value)


class ProductsTest(Raises, unittest.TestCase):
    ONE = Algebra((7, 3, 7), ((1, 2, None), (0, 0, 1)))
    OTHER = Algebra((4, 9), ((1, None), (0, 0)))
    LEVELS = (2, 3, 0, 1, 2, 3)

    def test_lexicographic(self):
        tables = ((3, None, 5, None, None, None), (2, 2, 4, 4, None, None))
        tables += ((1, None, 1, None, 3, None), (0, 0, 0, 0, 2, 2))
        self.assertTrue(lexicographic(self.ONE, self.OTHER) == Algebra(self.LEVELS, tables))

    def test_scoped(self):
        tables = ((2, 2, 4, 4, None, None), (3, 3, 5, 5, None, None), (0, 0, 0, 0, 2, 2), (1, 1, 1, 1, 3, 3))
        tables += ((1, None, 3, None, 5, None), (0, 0, 2, 2, 4, 4))
        self.assertTrue(scoped(self.ONE, self.OTHER) == Algebra(self.LEVELS, tables))

    def test_united(self):
        other = Algebra((7, 3, 7), ((None, None, None),))
        self.assertTrue(united(self.ONE, other) == Algebra((7, 3, 7), (*self.ONE.functions, *other.functions)))
        self.assertTrue(united(other, self.ONE) == Algebra((7, 3, 7), (*other.functions, *self.ONE.functions)))

    def test_unlike_levels(self):
        for levels in ((7, 7, 3), (7, 3), (7, 3, 7, 7), (7, 3, 8)):
            other = Algebra(levels, (same(len(levels)),) * 64)
            self.assert_error(BadUnion, united, self.ONE, other)

    def test_most_functions_united(self):
        one = Algebra((0,), ((0,),) * 32)
        self.assertEqual(len(united(one, one).functions), 64)
        self.assert_error(TooMany, united, one, Algebra((0,), ((0,),) * 33), most=64)

    def test_most_elements(self):
        eight = Algebra((0,) * 8, (same(8),))
        self.assertEqual(len(lexicographic(eight, eight).levels), 64)
        self.assertEqual(len(scoped(eight, eight).levels), 64)
        for one, other in ((13, 5), (5, 13), (64, 2)):
            two = (Algebra((0,) * one, (same(one),)), Algebra((0,) * other, (same(other),)))
            self.assert_error(TooMany, lexicographic, *two, most=64)
            self.assert_error(TooMany, scoped, *two, most=64)

    def test_most_functions(self):
        eight = Algebra((0,), ((0,),) * 8)
        self.assertEqual(len(lexicographic(eight, eight).functions), 64)
        self.assert_error(TooMany, lexicographic, eight, Algebra((0,), ((0,),) * 9), most=64)
        # Each function of the first one counts for each of two elements of the second one.
        one, other = Algebra((0,), ((0,),) * 30), Algebra((0, 1), ((0, 1),) * 4)
        self.assertEqual(len(scoped(one, other).functions), 64)
        self.assert_error(TooMany, scoped, one, Algebra((0, 1), ((0, 1),) * 5), most=64)
        self.assert_error(TooMany, scoped, Algebra((0,), ((0,),) * 31), other, most=64)

    def test_no_algebra(self):
        for call in (lexicographic, scoped, united):
            for value in NO_OBJECTS:
                self.assert_error(NotAlgebra, call, value, value)
                self.assert_error(NotAlgebra, call, self.ONE, value)
                self.assert_error(NotAlgebra, call, value, self.ONE)


class ProductLawsTest(unittest.TestCase):
    """Point 10."""

    def has(self, call, algebra):
        return call(algebra) is None

    def test_laws(self):
        has = self.has
        algebras = list(some_algebras(60))
        for one, other in itertools.product(algebras, repeat=2):
            pairs, scopes = lexicographic(one, other), scoped(one, other)
            one_grows, one_strict = has(growing_break, one), has(strict_break, one)
            both_isotone = has(isotone_break, one) and has(isotone_break, other)
            isotone = both_isotone and (has(cancelling_break, one) or has(constant_break, other))
            isotone = isotone and (not has_steps(one) or has(even_break, other))
            grows = one_grows and has(growing_break, other)
            strict = one_grows and has(strict_break, other)
            self.assertEqual(has(isotone_break, pairs), does_deny(one) or does_deny(other) or isotone)
            self.assertEqual(has(growing_break, pairs), one_strict or does_deny(other) or grows)
            self.assertEqual(has(strict_break, pairs), one_strict or does_deny(other) or strict)
            scoped_isotone = both_isotone and (len(set(one.levels)) == 1 or has(even_break, other))
            self.assertEqual(has(isotone_break, scopes), scoped_isotone)
            self.assertEqual(has(strict_break, scopes), one_strict and has(strict_break, other))


if __name__ == "__main__":
    unittest.main()
