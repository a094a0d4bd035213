"""Points 50 to 54: policies."""

import itertools
import random
import unittest

from routeweb.algebras import Algebra
from routeweb.errors import BadRecord, InvalidText, NotPolicy, NotText, TooMany
from routeweb.policies import (
    Policy, algebra_of, first_unlike, idle_clauses, joined, record_of, write_policy,
)
from tests.values import NO_INTEGERS, NO_OBJECTS, NO_STRINGS, NO_TUPLES, Raises

RECORDS = sorted(itertools.product(range(4), range(4), ("", "a", "ab", "b")))
TEXT = "if has a then prefer 3 longer 2\nif has a prefer 1 then drop a"
NOTHING = Policy("")
CONDITIONS = [f"{word} {value}" for word, values in (("has", "ab"), ("lacks", "ab"), ("prefer", "0123"),
                                                     ("length", "0123")) for value in values]
ACTIONS = [f"{word} {value}" for word, values in (("prefer", "0123"), ("longer", "0123"), ("add", "ab"),
                                                  ("drop", "ab")) for value in values]


def some_texts(many, most=5):
    made = random.Random(many)
    for _ in range(many):
        lines = []
        for _ in range(made.randint(0, most)):
            conditions = made.choices(CONDITIONS, k=made.choice((0, 1, 1, 2, 3)))
            actions = made.choices(ACTIONS, k=made.randint(0, 4))
            lines.append(" ".join(["if", *conditions, "then", *actions]))
        yield "\n".join(lines)


def made_by_definition(text, record):
    """What a text makes of a record: the words of points 50 and 51."""
    for line in text.split("\n") if text else []:
        conditions, actions = line.split("then")
        words = conditions.split()[1:]
        preference, length, tags = record
        holds = {"has": lambda tag: tag in tags, "lacks": lambda tag: tag not in tags,
                 "prefer": lambda number: int(number) == preference, "length": lambda number: int(number) == length}
        if all(holds[word](value) for word, value in zip(words[::2], words[1::2])):
            words = actions.split()
            for word, value in zip(words[::2], words[1::2]):
                if word == "prefer":
                    preference = int(value)
                if word == "longer":
                    length = min(3, length + int(value))
                if word == "add":
                    tags = "".join(sorted(set(tags + value)))
                if word == "drop":
                    tags = "".join(sorted(set(tags) - {value}))
            return preference, length, tags
    return record


class PolicyTest(Raises, unittest.TestCase):
    def test_apply(self):
        policy = Policy(TEXT)
        self.assertEqual(policy.apply((1, 2, "ab")), (3, 3, "ab"))
        self.assertEqual(policy.apply((1, 2, "b")), (1, 2, "b"))
        self.assertEqual(policy.apply(record=(0, 0, "a")), (3, 2, "a"))

    def test_no_clauses(self):
        for record in RECORDS:
            self.assertEqual(NOTHING.apply(record), record)

    def test_first_clause_only(self):
        policy = Policy("if prefer 1 then prefer 2\nif prefer 2 then prefer 3\nif then prefer 0")
        self.assertEqual([policy.apply((number, 0, ""))[0] for number in range(4)], [0, 2, 3, 0])

    def test_conditions(self):
        for text, count in (("has a", 32), ("has b", 32), ("lacks a", 32), ("has a has b", 16), ("has a lacks a", 0),
                            ("has a lacks b", 16), ("lacks a lacks b", 16), ("prefer 2", 16), ("prefer 2 prefer 3", 0),
                            ("length 0", 16), ("length 3 prefer 0 has b", 2), ("", 64), ("prefer 1 prefer 1", 16)):
            # Only for a record that meets the conditions the two make unlike ones.
            one, other = Policy(f"if {text} then prefer 0"), Policy(f"if {text} then prefer 3")
            met = [record for record in RECORDS if one.apply(record) != other.apply(record)]
            self.assertEqual(len(met), count, text)
        one, other = Policy("if length 3 prefer 0 lacks a then prefer 0"), NOTHING
        self.assertIsNone(first_unlike(one, other))
        self.assertEqual(Policy("if length 3 prefer 0 lacks a then prefer 2").apply((0, 3, "b")), (2, 3, "b"))
        self.assertEqual(Policy("if length 3 prefer 0 lacks a then prefer 2").apply((3, 0, "b")), (3, 0, "b"))

    def test_actions(self):
        for text, before, after in (
            ("prefer 0", (3, 1, "a"), (0, 1, "a")), ("longer 2", (3, 0, ""), (3, 2, "")),
            ("longer 2", (3, 2, ""), (3, 3, "")), ("longer 3", (3, 3, ""), (3, 3, "")),
            ("longer 0", (3, 1, ""), (3, 1, "")), ("longer 1 longer 1", (0, 0, ""), (0, 2, "")),
            ("add a", (0, 0, ""), (0, 0, "a")), ("add a", (0, 0, "b"), (0, 0, "ab")),
            ("add b", (0, 0, "a"), (0, 0, "ab")), ("add a", (0, 0, "a"), (0, 0, "a")),
            ("add b", (0, 0, "ab"), (0, 0, "ab")), ("drop a", (0, 0, "ab"), (0, 0, "b")),
            ("drop b", (0, 0, "ab"), (0, 0, "a")), ("drop b", (0, 0, "a"), (0, 0, "a")),
            ("drop a", (0, 0, ""), (0, 0, "")),
            ("add b drop a", (0, 0, "a"), (0, 0, "b")), ("drop a add a", (0, 0, "ab"), (0, 0, "ab")),
            ("prefer 1 prefer 2", (0, 0, ""), (2, 0, "")), ("prefer 2 prefer 1", (0, 0, ""), (1, 0, "")),
        ):
            self.assertEqual(Policy(f"if then {text}").apply(before), after, text)

    def test_conditions_ask_the_record_as_it_was(self):
        policy = Policy("if has a then drop a add b\nif has b then prefer 3")
        self.assertEqual(policy.apply((0, 0, "a")), (0, 0, "b"))

    def test_by_definition(self):
        for text in some_texts(150):
            policy = Policy(text)
            for record in RECORDS:
                made = policy.apply(record)
                self.assertEqual(made, made_by_definition(text, record))
                self.assertIn(made, RECORDS)

    def test_no_record(self):
        wrong = [(), (0, 0), (0, 0, "", ""), [0, 0, ""], (0, 0, "ba"), (0, 0, "aa"), (0, 0, "c"), (0, 0, "abc"),
                 (4, 0, ""), (0, 4, ""), (-1, 0, ""), (0, -1, ""), (0, 0, ("a",)), (0, 0, ["a"]), ("", 0, 0),
                 (0, 0, "A"), (0, 0, " "), (10 ** 30, 0, "")]
        wrong += [(0, 0, value) for value in (None, True, 0, (), [], {}, NOTHING)]
        for value in NO_INTEGERS:
            wrong += [(value, 0, ""), (0, value, "")]
        for record in (*wrong, *NO_TUPLES):
            self.assert_error(BadRecord, Policy(TEXT).apply, record)
            self.assert_error(BadRecord, NOTHING.apply, record)

    def test_no_text(self):
        for value in (*NO_STRINGS, NOTHING):
            self.assert_error(NotText, Policy, value)


class PolicyTextTest(Raises, unittest.TestCase):
    def assert_invalid(self, line, word, *lines):
        self.assert_error(InvalidText, Policy, "\n".join(lines), line=line, word=word)

    def test_write_policy(self):
        self.assertEqual(write_policy(Policy(TEXT)), TEXT)
        self.assertEqual(write_policy(NOTHING), "")
        self.assertEqual(write_policy(Policy("if then")), "if then")

    def test_further_spaces(self):
        text = "  if   has a  then  prefer   3 longer 2 \n if has a prefer 1 then drop a  "
        self.assertEqual(write_policy(Policy(text)), TEXT)
        self.assertEqual(write_policy(Policy("  if    then  ")), "if then")

    def test_there_and_back(self):
        for text in some_texts(100):
            self.assertEqual(write_policy(Policy(text)), text)

    def test_most_lines(self):
        lines = ["if has a has a then"] * 200
        self.assertEqual(write_policy(Policy("\n".join(lines))), "\n".join(lines))
        self.assert_error(TooMany, Policy, "\n".join([*lines, lines[0]]), most=200)
        # The number of lines is looked at ahead of the lines.
        self.assert_error(TooMany, Policy, "\n" * 200, most=200)
        self.assert_invalid(1, 1, *[""] * 200)

    def test_any_number_of_words(self):
        text = "if " + " ".join(CONDITIONS * 9) + " then " + " ".join(ACTIONS * 9)
        self.assertEqual(write_policy(Policy(text)), text)

    def test_lines_without_words(self):
        self.assert_invalid(1, 1, " ")
        self.assert_invalid(1, 1, "", "")
        self.assert_invalid(2, 1, "if then", "")
        self.assert_invalid(2, 1, "if then", "  ", "x")

    def test_other_first_words(self):
        for word in ("If", "then", "iff", "has", "0", "if\t", "\tif"):
            self.assert_invalid(1, 1, f"{word} has a then")
            self.assert_invalid(2, 1, "if then", f"{word} then", "")

    def test_words_are_lacking(self):
        self.assert_invalid(1, 2, "if")
        self.assert_invalid(1, 3, "if has")
        self.assert_invalid(1, 4, "if has a")
        self.assert_invalid(1, 6, "if has a prefer 2")
        self.assert_invalid(1, 7, " if  has a prefer 2 length  ")
        self.assert_invalid(1, 4, "if then add")
        self.assert_invalid(1, 6, "if then add a prefer")
        self.assert_invalid(2, 2, "if then", "if")

    def test_conditions(self):
        for word in ("hass", "lack", "longer", "add", "drop", "a", "0", "if", "Then", "and", "has\t"):
            self.assert_invalid(1, 2, f"if {word} a then")
            self.assert_invalid(1, 4, f"if has a {word} a then")
        for value in ("c", "ab", "A", "0", "", "then", "aa", "\u00e4"):
            self.assert_invalid(1, 3, f"if has {value} then")
            self.assert_invalid(1, 5, f"if prefer 0 lacks {value} then")
        for value in ("4", "-1", "00", "03", "+1", "a", "x", "", "then", "10", "\u00b2", "\u0662"):
            self.assert_invalid(1, 3, f"if prefer {value} then")
            self.assert_invalid(1, 5, f"if has b length {value} then")

    def test_actions(self):
        for word in ("has", "lacks", "length", "then", "if", "a", "0", "long", "prefers", "drop\t"):
            self.assert_invalid(1, 3, f"if then {word} a")
            self.assert_invalid(1, 7, f"if has a then add a {word} a")
        for value in ("c", "ab", "A", "0", "then"):
            self.assert_invalid(1, 4, f"if then add {value}")
            self.assert_invalid(1, 6, f"if then prefer 0 drop {value}")
        for value in ("4", "-1", "00", "a", "10", "\u00b2"):
            self.assert_invalid(1, 4, f"if then prefer {value}")
            self.assert_invalid(1, 6, f"if then add a longer {value}")

    def test_first_word_that_cannot_stand(self):
        self.assert_invalid(1, 2, "if x y z", "x")
        self.assert_invalid(2, 3, "if then", "if then then then")
        self.assert_invalid(3, 3, "if then", "if then", "if has x then", "x")

    def test_only_spaces_part_words(self):
        self.assert_invalid(1, 1, "if\tthen")
        self.assert_invalid(1, 2, "if then\r", "if then")
        self.assert_invalid(1, 1, "if\u00a0then")


class CompareTest(Raises, unittest.TestCase):
    def test_first_unlike(self):
        self.assertIsNone(first_unlike(NOTHING, Policy("if then")))
        self.assertIsNone(first_unlike(NOTHING, Policy("if prefer 1 then prefer 1 longer 0")))
        self.assertEqual(first_unlike(NOTHING, Policy(TEXT)), (0, 0, "a"))
        self.assertEqual(first_unlike(Policy(TEXT), NOTHING), (0, 0, "a"))
        self.assertEqual(first_unlike(NOTHING, Policy("if then longer 1")), (0, 0, ""))
        self.assertEqual(first_unlike(NOTHING, Policy("if has b length 2 then prefer 0")), (1, 2, "ab"))

    def test_first_unlike_by_definition(self):
        texts = list(some_texts(60, 3))
        told = set()
        for one, other in itertools.product(texts[:12], texts[12:30]):
            unlike = [record for record in RECORDS
                      if made_by_definition(one, record) != made_by_definition(other, record)]
            self.assertEqual(first_unlike(Policy(one), Policy(other)), min(unlike, default=None))
            told.add(bool(unlike))
        self.assertEqual(told, {True, False})

    def test_idle_clauses(self):
        self.assertEqual(idle_clauses(Policy(TEXT)), (2,))
        self.assertEqual(idle_clauses(NOTHING), ())
        self.assertEqual(idle_clauses(Policy("if then\nif then\nif has a then")), (2, 3))
        text = "if has a lacks a then\nif prefer 0 prefer 1 then prefer 0\nif then"
        self.assertEqual(idle_clauses(Policy(text)), (1, 2))
        # All records together meet one of the clauses ahead.
        self.assertEqual(idle_clauses(Policy("if has a then\nif lacks a then\nif prefer 2 then")), (3,))

    def test_idle_clauses_by_definition(self):
        for text in some_texts(100, 6):
            lines = text.split("\n") if text else []
            met = set()
            for record in RECORDS:
                for number, line in enumerate(lines, 1):
                    # With these actions a clause changes each record that meets it.
                    one = line.split("then")[0] + "then prefer "
                    if {made_by_definition(one + "0", record)[0], made_by_definition(one + "1", record)[0]} == {0, 1}:
                        met.add(number)
                        break
            self.assertEqual(idle_clauses(Policy(text)), tuple(sorted(set(range(1, len(lines) + 1)) - met)))

    def test_joined(self):
        found = joined(Policy(TEXT), NOTHING)
        self.assertIsInstance(found, str)
        self.assertIsNone(first_unlike(Policy(found), Policy(TEXT)))
        self.assertIsNone(first_unlike(Policy(joined(NOTHING, NOTHING)), NOTHING))
        one, other = Policy("if has a then drop a add b"), Policy("if has b then prefer 3 longer 2")
        self.assertEqual(Policy(joined(one, other)).apply((0, 0, "a")), (3, 2, "b"))
        self.assertEqual(Policy(joined(other, one)).apply((0, 0, "a")), (0, 0, "b"))

    def test_joined_by_definition(self):
        texts = list(some_texts(40, 4))
        for one, other in itertools.product(texts[:10], texts[10:]):
            found = joined(Policy(one), Policy(other))
            for record in RECORDS:
                wanted = made_by_definition(other, made_by_definition(one, record))
                self.assertEqual(made_by_definition(found, record), wanted)
            Policy(found)

    def test_errors_in_order(self):
        for value in (*NO_OBJECTS, TEXT, (NOTHING,)):
            for call in (first_unlike, joined):
                self.assert_error(NotPolicy, call, value, NOTHING)
                self.assert_error(NotPolicy, call, NOTHING, value)
            self.assert_error(NotPolicy, idle_clauses, value)
            self.assert_error(NotPolicy, write_policy, value)


class AlgebraOfTest(Raises, unittest.TestCase):
    def test_algebra(self):
        texts = list(some_texts(6))
        found = algebra_of(tuple(Policy(text) for text in texts))
        self.assertIsInstance(found, Algebra)
        self.assertEqual(found.levels, tuple((3 - preference) * 4 + length for preference, length, _ in RECORDS))
        tables = [tuple(RECORDS.index(made_by_definition(text, record)) for record in RECORDS) for text in texts]
        self.assertEqual(found.functions, tuple(tables))

    def test_levels(self):
        levels = algebra_of((NOTHING,)).levels
        self.assertEqual((levels[0], levels[4], levels[63], levels[51]), (12, 13, 3, 0))
        self.assertEqual(algebra_of((NOTHING,)).functions, (tuple(range(64)),))

    def test_most_policies(self):
        self.assertEqual(len(algebra_of((NOTHING,) * 64).functions), 64)

    def test_no_policies(self):
        for value in (*NO_TUPLES, (), (NOTHING,) * 65, [NOTHING], NOTHING, (None,) * 65):
            self.assert_error(NotPolicy, algebra_of, value)
        for value in (*NO_OBJECTS, TEXT, (NOTHING,)):
            self.assert_error(NotPolicy, algebra_of, (value,))
            self.assert_error(NotPolicy, algebra_of, (NOTHING, value))

    def test_record_of(self):
        self.assertEqual([record_of(number) for number in range(64)], RECORDS)
        self.assertEqual((record_of(0), record_of(63)), ((0, 0, ""), (3, 3, "b")))

    def test_no_index(self):
        for value in (64, -1, 10 ** 30, *NO_INTEGERS):
            self.assert_error(BadRecord, record_of, value)


if __name__ == "__main__":
    unittest.main()
