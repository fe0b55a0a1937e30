"""Point 4: problems as texts."""

import random
import unittest

from lotplans.errors import InvalidText, NotText
from lotplans.texts import read, write
from tests.helpers import EDGES, ODD_VALUES, SMALL, Case, random_problems

WORDS = ("demands", "setups", "units", "holdings")
TWO = ["demands 2 3", "setups 10 11", "units 0 1", "holdings 1 999"]
THIRTEEN = " 1 2 3 4 5 6 7 8 9 10 11 12 13"
NO_ENTRIES = ["+1", "-1", "-0", "01", "00", "1000", "1_0", "1.0", "1e1", "x", "0x1", "\u0661", "\u00b2", "1\t2", "1\r",
              "\t", "\u00a0", "1\u00a0", ",", "1,", "None", "True", "9" * 5000, "setups", "\x0b", "1\u2028"]


class Write(Case):
    def test_example(self):
        told = write(((2, 3), (10, 10), (0, 0), (1, 1)))
        self.assertEqual(told, "demands 2 3\nsetups 10 10\nunits 0 0\nholdings 1 1")

    def test_definition(self):
        for problem in EDGES + random_problems(11, 50, 12):
            lines = [word + "".join(" " + str(entry) for entry in row) for word, row in zip(WORDS, problem)]
            self.assertEqual(write(problem), "\n".join(lines))

    def test_wrong_problems(self):
        self.assert_problem_checked(write)


class Read(Case):
    def assert_invalid(self, line, word, text):
        self.assert_raised(InvalidText, {"line": line, "word": word}, read, text)

    def test_example(self):
        self.assert_invalid(2, 3, "demands 2 3\nsetups 10")

    def test_there_and_back(self):
        for problem in EDGES + random_problems(12, 50, 12):
            self.assertEqual(read(write(problem)), problem)

    def test_further_spaces(self):
        source = random.Random(3)
        for problem in EDGES + random_problems(13, 50, 12):
            lines = []
            for word, row in zip(WORDS, problem):
                words = [word] + [str(entry) for entry in row]
                gaps = [" " * source.randint(0, 3)] + [" " * source.randint(1, 4) for _ in row] + [" "]
                lines.append("".join(gap + each for gap, each in zip(gaps, words)) + " " * source.randint(0, 2))
            text = "\n".join(lines)
            self.assertEqual(read(text), problem)

    def test_not_text(self):
        for value in ODD_VALUES + [["demands 1"], ("demands 1",), 5]:
            if not isinstance(value, str):
                self.assert_raised(NotText, {}, read, value)

    def test_no_word_at_all(self):
        for text in ("", " ", "    ", "\n", "\n\n\n", "\n\n\n\n\n", " \ndemands 1", "\ndemands 1\nsetups 1"):
            self.assert_invalid(1, 1, text)

    def test_first_words(self):
        for line in range(4):
            for word in ("", "x", "Demands", "SETUPS", "demands:", "1", "demand", "setup", "units,", "demands\t", *WORDS):
                if word != WORDS[line]:
                    lines = list(TWO)
                    lines[line] = " ".join([word] + lines[line].split()[1:]) if word else ""
                    self.assert_invalid(line + 1, 1, "\n".join(lines))

    def test_words_that_write_no_entry(self):
        for line in range(4):
            for at in (1, 2):
                for word in NO_ENTRIES:
                    lines = list(TWO)
                    words = lines[line].split()
                    words[at] = word
                    lines[line] = " ".join(words)
                    self.assert_invalid(line + 1, at + 1, "\n".join(lines))

    def test_entries_at_their_bounds(self):
        self.assertEqual(read("demands 0\nsetups 999\nunits 100\nholdings 9"), ((0,), (999,), (100,), (9,)))
        self.assert_invalid(1, 2, "demands 1000\nsetups 1\nunits 1\nholdings 1")

    def test_too_many_entries(self):
        for line in range(1, 4):
            for more in (" 5", " 5 6", " x", " -1 2"):
                lines = list(TWO)
                lines[line] += more
                self.assert_invalid(line + 1, 4, "\n".join(lines))
        self.assert_invalid(1, 14, "demands" + THIRTEEN)
        self.assert_invalid(1, 14, "demands" + THIRTEEN + " 14 x")
        self.assert_invalid(2, 14, "demands" + THIRTEEN[:-3] + "\nsetups" + THIRTEEN)
        twelve = "\n".join(word + THIRTEEN[:-3] for word in WORDS)
        self.assertEqual(read(twelve), (tuple(range(1, 13)),) * 4)

    def test_lacking_entries(self):
        self.assert_invalid(1, 2, "demands")
        self.assert_invalid(1, 2, "  demands  \nsetups 1\nunits 1\nholdings 1")
        for line in range(1, 4):
            for many in (0, 1):
                lines = list(TWO)
                lines[line] = " ".join(lines[line].split()[:many + 1])
                self.assert_invalid(line + 1, many + 2, "\n".join(lines))
                self.assert_invalid(line + 1, many + 2, "\n".join(lines[:line + 1]))

    def test_lacking_lines(self):
        for many in range(1, 4):
            self.assert_invalid(many + 1, 1, "\n".join(TWO[:many]))
            self.assert_invalid(many + 1, 1, "\n".join(TWO[:many]) + "\n")
            self.assert_invalid(many + 1, 1, "\n".join(TWO[:many] + ["  "] + TWO[many:]))

    def test_fifth_line(self):
        text = "\n".join(TWO)
        for more in ("\n", "\n ", "\nx", "\nsetups 1 2", "\n\n", "\n  demands 1", "\n\nx y"):
            self.assert_invalid(5, 1, text + more)
        self.assert_invalid(4, 4, text + " 1\n")
        self.assert_invalid(1, 1, "\n" + text)

    def test_only_newlines_part_lines(self):
        self.assert_invalid(1, 3, "\r\n".join(TWO))
        self.assert_invalid(1, 3, "demands 2 3\rsetups 10 11")
        self.assert_invalid(1, 3, "demands 2 3\x0csetups 10 11")

    def test_the_first_fault_is_told(self):
        self.assert_invalid(1, 2, "demands x y\nsetup 1\n")
        self.assert_invalid(1, 3, "demands 1 -1\nsetup 1\nq")
        self.assert_invalid(2, 1, "demands 1\nsetup x y")
        self.assert_invalid(2, 2, "demands 1 2\nsetups x")
        self.assert_invalid(3, 2, "demands 1\nsetups 1\nunits")

    def test_equal_texts_have_equal_answers(self):
        text = write(SMALL)
        self.assertEqual(read(text), read(text))
        self.assertIsInstance(read(text), tuple)
        self.assertTrue(all(isinstance(row, tuple) for row in read(text)))


if __name__ == "__main__":
    unittest.main()
