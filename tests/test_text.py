"""Point 10: the text of a script."""
import random
import unittest

from helpers import Case, all_lines
from redolots.errors import InvalidText
from redolots.text import read_script, script_text

GOOD = "copy 1 <- 0\n"
SIGNS = ".*-0123456789"


class ScriptTextTest(unittest.TestCase):
    def test_example(self):
        self.assertEqual("move 1 <- 2 if .*-\nclear 0\n",
                         script_text([("move", 1, 2, ".*-"), ("clear", 0, -1, "")]))

    def test_each_form(self):
        self.assertEqual("", script_text([]))
        self.assertEqual("copy 1 <- 0\n", script_text([("copy", 1, 0, "")]))
        self.assertEqual("copy 10 <- 11 if -\n", script_text([("copy", 10, 11, "-")]))
        self.assertEqual("move 0 <- 9\n", script_text([("move", 0, 9, "")]))
        self.assertEqual("clear 11 if ............\n", script_text([("clear", 11, -1, "." * 12)]))

    def test_nothing_is_changed(self):
        script = [("move", 1, 2, ".*-")]
        script_text(script)
        self.assertEqual([("move", 1, 2, ".*-")], script)


class ReadScriptTest(Case):
    def wrong(self, line, text):
        with self.subTest(text[:80]):
            self.assertFails(InvalidText, {"line": line}, read_script, text)

    def wrong_line(self, row):
        """The row is wrong wherever it stands."""
        self.wrong(1, row + "\n")
        self.wrong(1, row + "\n" + GOOD)
        self.wrong(3, GOOD * 2 + row + "\n" + GOOD)
        self.wrong(60, GOOD * 59 + row + "\n")

    def test_example(self):
        self.wrong(2, "clear 0\ncopy 1 <- 1\n")

    def test_each_form(self):
        self.assertEqual([], read_script(""))
        self.assertEqual([("copy", 1, 0, "")], read_script("copy 1 <- 0\n"))
        self.assertEqual([("move", 11, 10, "5*.-")], read_script("move 11 <- 10 if 5*.-\n"))
        self.assertEqual([("clear", 0, -1, ""), ("clear", 7, -1, "*")], read_script("clear 0\nclear 7 if *\n"))

    def test_every_line_is_read_again(self):
        for line in all_lines(12, ("", "-", SIGNS[:12], SIGNS[1:])):
            self.assertEqual([line], read_script(script_text([line])))

    def test_scripts_are_read_again(self):
        chance = random.Random(3)
        lines = all_lines(12, ["", "-*", "." * 12, "0123456789", "9"])
        for length in list(range(20)) + [59, 60]:
            script = [chance.choice(lines) for _ in range(length)]
            self.assertEqual(script, read_script(script_text(script)))

    def test_every_guard_length(self):
        for length in range(16):
            for sign in SIGNS:
                for head in ("copy 1 <- 0", "move 1 <- 0", "clear 5"):
                    row = f"{head} if {sign * length}"
                    if 1 <= length <= 12:
                        self.assertEqual(sign * length, read_script(row + "\n")[0][3])
                    else:
                        self.assertFails(InvalidText, {"line": 1}, read_script, row + "\n")
        self.wrong_line("clear 1 if " + "-" * 100000)

    def test_guards_are_not_compared_with_blocks(self):
        self.assertEqual([("copy", 11, 3, "-")], read_script("copy 11 <- 3 if -\n"))
        self.assertEqual([("clear", 0, -1, "-" * 12), ("clear", 0, -1, "-")],
                         read_script("clear 0 if ------------\nclear 0 if -\n"))

    def test_wrong_numbers(self):
        for number in ("12", "13", "99", "100", "00", "01", "011", "+1", "-1", "1.0", "1_0", "x", "", "1" * 5000,
                       "0" * 5000, "0x1", "1e0", "one"):
            self.wrong_line(f"copy {number} <- 2")
            self.wrong_line(f"copy 2 <- {number}")
            self.wrong_line(f"move {number} <- 2 if -")
            self.wrong_line(f"move 2 <- {number} if -")
            self.wrong_line(f"clear {number}")
            self.wrong_line(f"clear {number} if -")

    def test_equal_blocks(self):
        for block in range(12):
            self.wrong_line(f"copy {block} <- {block}")
            self.wrong_line(f"move {block} <- {block} if -")

    def test_spaces(self):
        for row in ("copy  1 <- 0", "copy 1  <- 0", "copy 1 <-  0", "copy 1 <- 0 ", " copy 1 <- 0", "copy1 <- 0",
                    "copy 1<- 0", "copy 1 <-0", "copy 1 < - 0", "clear  1", "clear 1 ", " clear 1", "clear1",
                    "clear 1  if -", "clear 1 if  -", "clear 1 if - ", "clear 1 if", "clear 1 if ", "clear 1if -",
                    "clear 1 if-", "copy 1 <- 0  if -", "copy 1 <- 0 if  -", "copy 1 <- 0 if - ", "copy 1 <- 0if -",
                    "copy 1 <- 0 if-", "copy 1 <- 0 if", "copy 1 <- 0 if ", " ", "  ", "copy\t1 <- 0", "copy 1\t<- 0",
                    "copy 1 <-\t0", "clear\t1", "clear 1 if\t-", "clear 1\tif -", "\tclear 1", "clear 1\t"):
            self.wrong_line(row)

    def test_words(self):
        for row in ("copy", "clear", "move", "if -", "if", "copy 1", "copy 1 <-", "copy 1 0", "copy <- 0", "<- 0",
                    "move 1", "move 1 if -", "copy 1 -> 0", "copy 1 = 0", "copy 1 <= 0", "swap 1 <- 0", "clear 1 <- 0",
                    "clear 1 <- -1", "clear -1", "clear 1 unless -", "copy 1 <- 0 when -", "clear", "clear if -",
                    "copy if -", "copy 1 <- if -", "1 <- 0", "#", "copy 1 <- 0 <- 2", "clear 1 2", "clear 1 if - if -"):
            self.wrong_line(row)

    def test_capital_letters(self):
        for row in ("Copy 1 <- 0", "COPY 1 <- 0", "MOVE 1 <- 0", "Clear 1", "clear 1 IF -", "clear 1 If -"):
            self.wrong_line(row)

    def test_wrong_signs(self):
        for sign in "axX+/:,;?_!()'\"\\~":
            for guard in (sign, "-" + sign, sign + "-", "-" * 11 + sign):
                self.wrong_line(f"clear 1 if {guard}")
                self.wrong_line(f"copy 1 <- 0 if {guard}")

    def test_something_behind_the_line(self):
        for rest in (" 3", " -", " if", ",", ".", ";", " # why", " copy", " clear 2", "x"):
            self.wrong_line("copy 1 <- 0" + rest)
            self.wrong_line("clear 1 if -" + rest.replace(".", "a").replace(" -", " - -"))
            self.wrong_line("clear 1" + rest)

    def test_empty_lines(self):
        self.wrong(1, "\n")
        self.wrong(1, "\n" + GOOD)
        self.wrong(2, GOOD + "\n")
        self.wrong(2, GOOD + "\n" + GOOD)
        self.wrong(3, GOOD + GOOD + "\n\n")

    def test_missing_last_newline(self):
        self.wrong(1, "clear 0")
        self.wrong(1, "c")
        self.wrong(1, " ")
        self.wrong(2, GOOD + "clear 0")
        self.wrong(3, GOOD + GOOD + "copy 1 <- 1")
        self.wrong(60, GOOD * 59 + "clear 0")
        self.wrong(61, GOOD * 60 + "clear 0")

    def test_other_line_breaks(self):
        for mark in ("\r", "\r\n", "\x0b", "\x0c", "\x1c", "\x1d", "\x1e", "\n\r"):
            self.wrong(2 if mark == "\n\r" else 1, "clear 0" + mark + GOOD)
            self.wrong(1 if mark != "\n\r" else 2, "clear 0" + mark)

    def test_number_of_lines(self):
        self.assertEqual(59, len(read_script(GOOD * 59)))
        self.assertEqual(60, len(read_script(GOOD * 60)))
        for length in (61, 62, 1000, 100000):
            self.wrong(61, GOOD * length)
        self.wrong(61, GOOD * 60 + "wrong\n")
        self.wrong(61, GOOD * 60 + "\n")
        self.wrong(61, GOOD * 61 + "wrong\n")
        self.wrong(60, GOOD * 59 + "wrong\n" + GOOD * 5)
        self.wrong(2, GOOD + "wrong\n" + GOOD * 100)

    def test_first_wrong_line(self):
        self.wrong(1, "x\ny\n")
        self.wrong(2, GOOD + "x\n\n" + "z")
        self.wrong(3, GOOD * 2 + "copy 1 <- 1\nclear 12\n")
        self.wrong(1, "clear 00\nclear 0")

    def test_long_texts(self):
        self.wrong(1, "x" * 1000000)
        self.wrong(1, " " * 1000000 + "\n")
        self.wrong(1, "\n" * 1000000)
        self.wrong(1, "clear " + "0" * 1000000 + "\n")
        self.wrong(2, GOOD + "clear " + "1" * 1000000 + "\n")

    def test_a_list_of_tuples(self):
        told = read_script(GOOD)
        self.assertIsInstance(told, list)
        self.assertIsInstance(told[0], tuple)
        told.append(None)
        self.assertEqual([("copy", 1, 0, "")], read_script(GOOD))


if __name__ == "__main__":
    unittest.main()
