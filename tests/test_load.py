"""Promises 1 and 2: load and show."""

import unittest

from asking import ask, last, load, quick, show, tell, withdraw

EIGHT = "A\n B\n  C\n D\nE\n F\nG\nH"


class LoadCounts(unittest.TestCase):
    def counted(self, text, count):
        for side in (0, 1):
            self.assertEqual([[count]], ask(load(side, text)), text)

    def test_lists(self):
        self.counted("A", 1)
        self.counted("Aves\n Corvus\n  corax\n Pica\nReptilia", 5)
        self.counted(EIGHT, 8)
        self.counted("A\n B\n  C\n   D\n    E\n     F\n      G\n       H", 8)
        self.counted("A\nB\nC", 3)

    def test_plus(self):
        self.counted("A +\n B", 2)
        self.counted("A +\n B +\n  C\nD", 4)
        self.counted("A\n B +\n  C", 3)

    def test_each_letter(self):
        for first in "AZaz":
            self.counted(first, 1)
            self.counted("x" + first + " +\n b", 2)

    def test_name_lengths(self):
        self.counted("a" * 20, 1)
        self.counted("a" * 20 + " +\n " + "b" * 20, 2)

    def test_names_that_differ_a_little(self):
        self.counted("a\nA\nab\naB\nb\nba", 6)

    def test_same_name_on_both_sides(self):
        self.assertEqual([[2], [2]], ask(load(0, "A\n B"), load(1, "A\n B")))


class LoadRefusals(unittest.TestCase):
    def refused(self, text, number):
        for side in (0, 1):
            self.assertEqual([number], last(load(side, text)), text)

    def test_side(self):
        for side in (-2147483648, -1, 2, 3, 100, 2147483647):
            self.assertEqual([-1], last(load(side, "A")), side)
            self.assertEqual([-1], last(load(side, "")), side)

    def test_side_has_a_list(self):
        for side in (0, 1):
            self.assertEqual([[1], [-2], [-2]], ask(load(side, "A"), load(side, "A"), load(side, "")))
            self.assertEqual([[1], [-1]], ask(load(side, "A"), load(2, "A")))

    def test_other_side_stays_free(self):
        self.assertEqual([[1], [-2], [2]], ask(load(1, "A"), load(1, "B"), load(0, "C\nD")))

    def test_form(self):
        wrong = [" ", "+", " +", "A ", "A  +", "A+", "A + ", "A ++", "A -", "A B", "A1", "1", "A_", "-", "A\r", "A +\r",
                 "\tA", "A\t", "A\t+", "A + +", "A +B"]
        for line in wrong:
            self.refused(line, -101)
            self.refused("Q\nR\n" + line, -103)
            self.refused(line + "\nQ", -101)

    def test_only_letters_make_names(self):
        letters = list(range(65, 91)) + list(range(97, 123))
        for byte in range(256):
            if byte in letters:
                self.assertEqual([1], last(load(0, [byte])))
                self.assertEqual([1], last(load(0, [65, byte, 66])))
            else:
                self.refused([byte], -101)
                self.refused([81, 10, 65, byte], -103 if byte == 10 else -102)

    def test_name_too_long(self):
        self.refused("a" * 21, -101)
        self.refused("a" * 21 + " +\n b", -101)
        self.refused("A\n " + "a" * 21, -102)
        self.refused("a" * 4096, -101)

    def test_empty_lines(self):
        self.refused("", -101)
        self.refused("\n", -101)
        self.refused("\nA", -101)
        self.refused("A\n\nB", -102)
        self.refused("A\n", -102)
        self.refused("A\n B\n", -103)
        self.refused(EIGHT + "\n", -109)
        self.refused("\n" * 4096, -101)

    def test_too_deep(self):
        self.refused(" A", -101)
        self.refused("  A", -101)
        self.refused(" A\n B", -101)
        self.refused("A\n  B", -102)
        self.refused("A\n B\n   C", -103)
        self.refused("A\n B\nC\n  D", -104)
        self.refused(" " * 4095 + "A", -101)

    def test_name_twice(self):
        self.refused("A\nA", -102)
        self.refused("A\n A", -102)
        self.refused("A\n B\nC\n B", -104)
        self.refused("A +\n A", -102)
        self.refused("A\n B +\n  C\n D\nB", -105)

    def test_ninth_line(self):
        self.refused(EIGHT + "\nI", -109)
        self.refused(EIGHT + "\n I", -109)
        self.refused(EIGHT + "\nI\nJ\nK", -109)
        self.refused(EIGHT + "\n?", -109)
        self.refused("\n".join(["A", "B", "C", "D", "E", "F", "G", "H", "H"]), -109)

    def test_first_bad_line_counts(self):
        self.refused("A\n?\n   B", -102)
        self.refused("A\n   B\n?", -102)
        self.refused("A\nA\n?", -102)
        self.refused("A\n B\n?\n" + "\n".join("CDEFGHIJ"), -103)

    def test_plus_without_part(self):
        self.refused("A +", -201)
        self.refused("A +\nB", -201)
        self.refused("A\nB +", -202)
        self.refused("A\n B +\n C", -202)
        self.refused("A\n B +\nC\n D", -202)
        self.refused("A +\n B +", -202)
        self.refused("A +\n B\nC +\nD +", -203)
        self.refused("A\nB\nC\nD\nE\nF\nG\nH +", -208)

    def test_wrong_lines_come_before_a_plus_without_part(self):
        self.refused("A\nB +\nC\nD\n?", -105)
        self.refused("A\nB +\nC\nD\n  E", -105)
        self.refused("A\nB +\nC\nD\nA", -105)
        self.refused("A +\nB\nC\nD\nE\nF\nG\nH\nI", -109)
        self.refused("A +\n", -102)

    def test_refused_text_leaves_the_side_without_list(self):
        for text in ("", "A +", "A\nA"):
            answered = ask(load(0, text), show(0), load(0, "B\n C"), show(0))
            self.assertEqual([[-2], [2], [0] + list(b"B\n C")], answered[1:])

    def test_refusal_keeps_the_loaded_list(self):
        answered = ask(load(0, "A\n B"), load(1, "C"), tell(1, 1, 100, 4), quick(),
                       load(0, "X"), load(1, "X\nY"), load(7, "X"), show(0), show(1), quick(), withdraw(1))
        self.assertEqual([[-2], [-2], [-1], [0] + list(b"A\n B"), [0] + list(b"C")], answered[4:9])
        self.assertEqual(answered[3], answered[9])
        self.assertEqual([0], answered[10])


class Show(unittest.TestCase):
    def test_bytes_as_loaded(self):
        texts = ["A", EIGHT, "A +\n B +\n  " + "c" * 20 + "\nD"]
        for text in texts:
            for side in (0, 1):
                self.assertEqual([0] + list(text.encode()), last(load(side, text), show(side)))

    def test_each_side_has_its_own(self):
        for order in ((0, 1), (1, 0)):
            loads = [load(side, ("Left\n a", "Right")[side]) for side in order]
            answered = ask(*loads, show(0), show(1), show(0))
            self.assertEqual([[0] + list(b"Left\n a"), [0] + list(b"Right"), [0] + list(b"Left\n a")], answered[2:])

    def test_refusals(self):
        for side in (-2147483648, -1, 2, 100, 2147483647):
            self.assertEqual([[-1], [1], [1], [-1]], ask(show(side), load(0, "A"), load(1, "A"), show(side)))
        self.assertEqual([[-2], [-2]], ask(show(0), show(1)))
        self.assertEqual([[1], [-2], [0, 65]], ask(load(0, "A"), show(1), show(0)))
        self.assertEqual([[1], [-2], [0, 65]], ask(load(1, "A"), show(0), show(1)))


if __name__ == "__main__":
    unittest.main()
