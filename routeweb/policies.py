"""Policies: clauses that change records of routes, the first one whose conditions a record meets."""

from routeweb.algebras import Algebra
from routeweb.checks import is_number, is_tuple
from routeweb.errors import BadRecord, NotPolicy
from routeweb.words import LineReader, few_lines_of

MOST_LINES = 200
MOST_POLICIES = 64
NUMBERS = (0, 1, 2, 3)
TAGS = ("a", "b")
TAG_SETS = ("", "a", "ab", "b")
CONDITIONS = ("has", "lacks", "prefer", "length")
ACTIONS = ("prefer", "longer", "add", "drop")
# What stands behind these words is a tag, behind all others a number.
TAG_WORDS = ("has", "lacks", "add", "drop")


class Policy:
    """Clauses: pairs of a tuple of conditions and one of actions, which are pairs of a word and a tag or number."""

    def __init__(self, text):
        lines = few_lines_of(text, MOST_LINES)
        self.clauses = tuple([_read_clause(LineReader(index, line)) for index, line in enumerate(lines, start=1)])

    def apply(self, record):
        """What the actions of the first clause whose conditions a record meets make of it."""
        if not _is_record(record):
            raise BadRecord("no record")
        index = _first_met(self, record)
        return record if index is None else _made(self.clauses[index][1], record)


def _read_clause(reader):
    reader.take(("if",))
    conditions = []
    word = reader.take((*CONDITIONS, "then"))
    while word != "then":
        conditions.append((word, reader.take(_values_behind(word))))
        word = reader.take((*CONDITIONS, "then"))
    actions = []
    while not reader.is_done():
        word = reader.take(ACTIONS)
        actions.append((word, reader.take(_values_behind(word))))
    return tuple(conditions), tuple(actions)


def _values_behind(word):
    return TAGS if word in TAG_WORDS else NUMBERS


def _is_record(value):
    if not is_tuple(value, 3, 3):
        return False
    return is_number(value[0], 0, 3) and is_number(value[1], 0, 3) and value[2] in TAG_SETS


def _is_met(condition, record):
    word, value = condition
    preference, length, tags = record
    if word == "has":
        return value in tags
    if word == "lacks":
        return value not in tags
    return value == (preference if word == "prefer" else length)


def _first_met(policy, record):
    """The index of the first clause whose conditions a record meets, None without any."""
    for index, (conditions, _) in enumerate(policy.clauses):
        if all([_is_met(condition, record) for condition in conditions]):
            return index
    return None


def _made(actions, record):
    """What actions, done one after another, make of a record."""
    preference, length, tags = record
    for word, value in actions:
        if word == "prefer":
            preference = value
        elif word == "longer":
            length = min(3, length + value)
        else:
            tags = _tags_with(tags, value) if word == "add" else tags.replace(value, "")
    return (preference, length, tags)


def _tags_with(tags, tag):
    return "".join([each for each in TAGS if each in tags or each == tag])


def check_policy(policy):
    """Raise NotPolicy for a value that is no policy."""
    if not isinstance(policy, Policy):
        raise NotPolicy("no policy")


def _check_two(one, other):
    check_policy(one)
    check_policy(other)


def write_policy(policy):
    """The text of a policy."""
    check_policy(policy)
    return "\n".join([_line(conditions, actions) for conditions, actions in policy.clauses])


def _line(conditions, actions):
    words = ["if"] + [f"{word} {value}" for word, value in conditions]
    words += ["then"] + [f"{word} {value}" for word, value in actions]
    return " ".join(words)


def _all_records():
    """The ascending list of all records."""
    return [(preference, length, tags) for preference in NUMBERS for length in NUMBERS for tags in TAG_SETS]


def first_unlike(one, other):
    """The least record of which two policies make unlike ones, None if there is none."""
    _check_two(one, other)
    for record in _all_records():
        if one.apply(record) != other.apply(record):
            return record
    return None


def idle_clauses(policy):
    """The ascending tuple of the numbers, from 1, of the clauses that are the first one met by no record."""
    check_policy(policy)
    met = [_first_met(policy, record) for record in _all_records()]
    return tuple([index + 1 for index in range(len(policy.clauses)) if index not in met])


def joined(one, other):
    """The text of a policy that makes of each record what other makes of what one makes of it."""
    _check_two(one, other)
    lines = []
    for record in _all_records():
        made = other.apply(one.apply(record))
        if made != record:
            lines.append(_line_for(record, made))
    return "\n".join(lines)


def _line_for(record, made):
    """A clause that is met by one record alone, and makes another one of it."""
    preference, length, tags = record
    conditions = [("prefer", preference), ("length", length)]
    conditions += [("has" if tag in tags else "lacks", tag) for tag in TAGS]
    # No action makes a route shorter, so the difference is none below 0.
    actions = [("prefer", made[0]), ("longer", made[1] - length)]
    actions += [("add" if tag in made[2] else "drop", tag) for tag in TAGS]
    return _line(conditions, actions)


def algebra_of(policies):
    """The algebra whose elements are the 64 records, and whose functions are policies."""
    if not is_tuple(policies, 1, MOST_POLICIES):
        raise NotPolicy("no tuple of 1 to 64 policies")
    for policy in policies:
        check_policy(policy)
    records = _all_records()
    numbers = {record: number for number, record in enumerate(records)}
    levels = [(3 - preference) * 4 + length for preference, length, _ in records]
    tables = [tuple([numbers[policy.apply(record)] for record in records]) for policy in policies]
    return Algebra(tuple(levels), tuple(tables))


def record_of(number):
    """The record with an index."""
    records = _all_records()
    if not is_number(number, 0, len(records) - 1):
        raise BadRecord("no index of a record")
    return records[number]
