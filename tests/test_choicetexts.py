"""Point 22: texts of choices."""

import itertools
import unittest

from routeweb.choices import Choices
from routeweb.choicetexts import read_choices, write_choices
from routeweb.errors import InvalidText, NotChoices, NotText, TooMany
from tests.test_choices import NOTHING, QUARREL, SPANS, some_choices
from tests.values import NO_OBJECTS, NO_STRINGS, Raises


class WriteChoicesTest(Raises, unittest.TestCase):
    def test_lines(self):
        self.assertEqual(write_choices(QUARREL), "1: 120 10\n2: 210 20")
        self.assertEqual(write_choices(SPANS), "1: 10\n2: 210 20\n3: 320 3210\n4:")
        self.assertEqual(write_choices(Choices(((),))), "1:")
        self.assertEqual(write_choices(Choices((*((),) * 6, ((7, 1, 2, 3, 4, 5, 6, 0),)))),
                         "1:\n2:\n3:\n4:\n5:\n6:\n7: 71234560")

    def test_no_lines(self):
        self.assertEqual(write_choices(NOTHING), "")

    def test_no_choices(self):
        for value in NO_OBJECTS:
            self.assert_error(NotChoices, write_choices, value)


class ReadChoicesTest(Raises, unittest.TestCase):
    def assert_invalid(self, line, word, *lines):
        self.assert_error(InvalidText, read_choices, "\n".join(lines), line=line, word=word)

    def test_there_and_back(self):
        for choices in some_choices(80, 5):
            found = read_choices(write_choices(choices))
            self.assertIsInstance(found, Choices)
            self.assertTrue(found == choices)

    def test_no_lines(self):
        self.assertEqual(read_choices("").lists, ())

    def test_lists(self):
        self.assertEqual(read_choices("1: 120 10\n2:").lists, (((1, 2, 0), (1, 0)), ()))
        # The nodes of paths are those of all lines, not only of the lines above.
        self.assertEqual(read_choices("1: 130\n2:\n3:").lists, (((1, 3, 0),), (), ()))

    def test_further_spaces(self):
        self.assertTrue(read_choices("  1:   120  10 \n2:   210 20   ") == QUARREL)
        self.assertEqual(read_choices("  1:  ").lists, ((),))

    def test_most(self):
        words = ["7" + "".join(between) + "0" for between in itertools.permutations("123456", 2)]
        above = [f"{node}:" for node in range(1, 7)]
        found = read_choices("\n".join([*above, "7: " + " ".join(words[:10])]))
        self.assertEqual(found.lists[6], tuple(tuple(map(int, word)) for word in words[:10]))
        self.assert_invalid(7, 12, *above, "7: " + " ".join(words[:11]))
        self.assert_invalid(7, 12, *above, "7: " + " ".join(words[:12]))
        self.assert_invalid(7, 12, *above, "7: " + " ".join([*words[:10], "x"]))
        # A wrong word ahead of the eleventh one is told, not the eleventh.
        self.assert_invalid(7, 3, *above, "7: " + " ".join([words[0], "x", *words[1:11]]))

    def test_too_many_lines(self):
        lines = [f"{node}:" for node in range(1, 9)]
        self.assertEqual(len(read_choices("\n".join(lines[:7])).lists), 7)
        self.assert_error(TooMany, read_choices, "\n".join(lines), most=7)
        # The number of lines is looked at ahead of the lines.
        self.assert_error(TooMany, read_choices, "\n" * 7, most=7)
        self.assert_error(TooMany, read_choices, "x\n" * 7, most=7)
        self.assert_invalid(1, 1, *[""] * 7)

    def test_no_text(self):
        for value in (*NO_STRINGS, QUARREL):
            self.assert_error(NotText, read_choices, value)

    def test_lines_without_words(self):
        self.assert_invalid(1, 1, " ")
        self.assert_invalid(1, 1, "", "")
        self.assert_invalid(2, 1, "1:", "")
        self.assert_invalid(2, 1, "1:", "   ", "x")

    def test_wrong_numbers(self):
        wrong = ("0:", "2:", "1", ":", "1 :", "01:", "1;", "1::", "-1:", "+1:", "10", "1:10", "\u00b9:", "\t1:", "1:\t")
        for word in wrong:
            self.assert_invalid(1, 1, f"{word} 10")
        for word in ("1:", "3:", "2", "2:20", "02:"):
            self.assert_invalid(2, 1, "1: 10", f"{word} 20", "x")

    def test_no_paths(self):
        wrong = ["1", "0", "01", "12", "20", "110", "1210", "100", "1020", "140", "190", "1a0", "-10", "10:", "(1,0)",
                 "1,0", "\u0661\u0660", "\u00b90", "1\u00b20", "1\t0", "10\r", "1230120", "9" * 5000]
        wrong.append("1" + "2" * 5000 + "0")
        for word in wrong:
            self.assert_invalid(1, 2, f"1: {word} 10", "2:", "3:")
            self.assert_invalid(1, 4, f"1: 10 120 {word} x", "2:", "3:")
            self.assert_invalid(2, 3, "1: 10", f"2: 20 {word}", "3: x")

    def test_only_spaces_part_words(self):
        self.assert_invalid(1, 2, "1: 10\t120", "2:")
        self.assert_invalid(1, 2, "1: 10\u00a0", "2:")
        self.assert_invalid(1, 1, "1:\r", "2:")

    def test_path_of_a_node_without_a_line(self):
        self.assert_invalid(1, 2, "1: 120")
        self.assert_invalid(1, 3, "1: 120 130 x", "2:")

    def test_path_stands_earlier(self):
        self.assert_invalid(1, 3, "1: 10 10", "2:")
        self.assert_invalid(2, 4, "1: 10", "2: 20 210 20 210 x")
        # Another node may have the same rest, and a path may be the rest of another one.
        self.assertEqual(read_choices("1: 10\n2: 210").lists, (((1, 0),), ((2, 1, 0),)))

    def test_first_line_that_cannot_stand(self):
        self.assert_invalid(1, 2, "1: 11", "x")
        self.assert_invalid(2, 3, "1: 10", "2: 20 20", "4:")


if __name__ == "__main__":
    unittest.main()
