"""Promise 12: translate."""

import unittest

from asking import APART, EQUAL, HOLDS, OVERLAP, WITHIN, ask, last, load, record, tell, translate, withdraw

FAR = (-2147483648, 2147483647)
LISTS = [load(0, "A\n B\n C"), load(1, "X\n Y\n  Z\nW")]


def translated(concept, *numbers):
    """translate's answer for this concept and these numbers."""
    return [1 + len(numbers), concept] + list(numbers)


class Translate(unittest.TestCase):
    def check(self, calls, c, wanted):
        self.assertEqual(wanted, last(*LISTS, *calls, translate(c)), (calls, c))

    def test_nothing_told(self):
        for c in (0, 1, 2):
            self.check([], c, translated(-1, 1, 1, 1, 1))
        for c in (100, 101, 102, 103):
            self.check([], c, translated(-1, 1, 1, 1))

    def test_each_mask(self):
        for mask in range(1, 32):
            number = 2 if mask in (1, 2, 3) else 0 if mask == 16 else 1
            concept = 100 if number == 2 else -1
            calls = [load(0, "A"), load(1, "X"), tell(1, 0, 100, mask)]
            self.assertEqual(translated(concept, number), last(*calls, translate(0)), mask)
            turned = 2 if mask in (1, 4, 5) else 0 if mask == 16 else 1
            concept = 0 if turned == 2 else -1
            self.assertEqual(translated(concept, turned), last(*calls, translate(100)), mask)

    def test_the_longest_chain(self):
        self.check([tell(1, 1, 100, WITHIN)], 1, translated(100, 2, 1, 1, 0))
        self.check([tell(1, 1, 101, WITHIN)], 1, translated(101, 2, 2, 1, 0))
        self.check([tell(1, 1, 102, WITHIN)], 1, translated(102, 2, 2, 2, 0))
        self.check([tell(1, 1, 103, EQUAL)], 1, translated(103, 0, 0, 0, 2))

    def test_either_side(self):
        told = [tell(1, 1, 101, EQUAL)]
        self.check(told, 0, translated(-1, 1, 1, 1, 1))
        self.check(told, 1, translated(101, 2, 2, 1, 0))
        self.check(told, 2, translated(-1, 1, 0, 0, 1))
        self.check(told, 100, translated(-1, 1, 1, 1))
        self.check(told, 101, translated(1, 2, 2, 0))
        self.check(told, 102, translated(1, 2, 2, 0))
        self.check(told, 103, translated(-1, 1, 0, 1))

    def test_told_the_other_way(self):
        self.check([tell(1, 101, 1, HOLDS)], 1, translated(101, 2, 2, 1, 0))
        self.check([tell(1, 102, 2, WITHIN)], 102, translated(2, 2, 0, 2))

    def test_apart(self):
        self.check([tell(1, 0, 100, APART)], 2, translated(-1, 0, 0, 0, 1))
        self.check([tell(1, 0, 100, APART), tell(2, 0, 103, APART)], 0, translated(-1, 0, 0, 0, 0))
        self.check([tell(1, 0, 100, APART)], 102, translated(-1, 0, 0, 0))

    def test_several_choices(self):
        self.check([tell(1, 1, 101, EQUAL + WITHIN)], 1, translated(101, 2, 2, 1, 0))
        # In Y or in W: sure of neither.
        self.check([tell(1, 1, 101, WITHIN + APART), tell(2, 1, 103, WITHIN + APART)], 1, translated(-1, 1, 1, 1, 1))
        # In Y, or holding it all: only that they meet is sure.
        self.check([tell(1, 1, 101, WITHIN + HOLDS)], 1, translated(-1, 1, 1, 1, 1))

    def test_overlap_and_holds(self):
        self.check([tell(1, 1, 101, OVERLAP)], 1, translated(-1, 1, 1, 1, 1))
        self.check([tell(1, 1, 101, HOLDS)], 1, translated(-1, 1, 1, 1, 1))

    def test_plus(self):
        told = [tell(1, 1, 101, WITHIN), tell(2, 2, 101, WITHIN)]
        lists = [load(0, "A +\n B\n C"), LISTS[1]]
        self.assertEqual(translated(101, 2, 2, 1, 0), last(*lists, *told, translate(0)))
        self.check(told, 0, translated(-1, 1, 1, 1, 1))

    def test_records(self):
        told = [tell(1, 0, 100, EQUAL + WITHIN + APART)]
        self.check(told, 0, translated(-1, 1, 1, 1, 1))
        self.check(told + [record(1, [0, 100], [])], 0, translated(100, 2, 1, 1, 0))
        self.check(told + [record(1, [0], [100])], 0, translated(-1, 0, 0, 0, 1))

    def test_other_side_without_a_list(self):
        self.assertEqual([1, -1], last(load(0, "A\n B"), translate(1)))
        self.assertEqual([1, -1], last(load(1, "A\n B"), translate(100)))
        self.assertEqual([1, -1], last(load(1, "A\n B"), tell(1, 100, 101, EQUAL), translate(100)))

    def test_lists_loaded_in_either_order(self):
        self.assertEqual(translated(101, 2, 2), last(load(1, "X\n Y"), load(0, "A"), tell(1, 0, 101, 2), translate(0)))


class Refusals(unittest.TestCase):
    MANY = [tell(1, 0, 100, 15), tell(2, 0, 100, 15), tell(3, 0, 100, 24)]

    def test_no_concept(self):
        for number in (-1, 3, 8, 99, 104, 200, -100) + FAR:
            self.assertEqual([-1], last(*LISTS, translate(number)))
        self.assertEqual([[-1], [-1]], ask(translate(0), translate(100)))
        self.assertEqual([-1], last(load(0, "A"), translate(100)))
        self.assertEqual([-1], last(load(1, "A"), translate(0)))

    def test_too_many_choices(self):
        self.assertEqual([-2], last(*LISTS, *self.MANY, translate(0)))
        self.assertEqual([-2], last(load(0, "A\n B"), tell(1, 0, 1, 31), tell(2, 0, 1, 31), translate(0)))
        self.assertEqual(translated(-1, 1, 1, 1, 1), last(*LISTS, *self.MANY, withdraw(3), translate(0)))

    def test_no_world(self):
        self.assertEqual([-3], last(*LISTS, tell(1, 1, 2, EQUAL), translate(0)))
        self.assertEqual([-3], last(*LISTS, record(1, [103], [103]), translate(102)))
        self.assertEqual([-3], last(load(0, "A"), record(1, [0], [0]), translate(0)))

    def test_order(self):
        no_world = record(1, [0], [0])
        self.assertEqual([-1], last(*LISTS, no_world, *self.MANY, translate(3)))
        self.assertEqual([-2], last(*LISTS, no_world, *self.MANY, translate(2)))
        self.assertEqual([-1], last(*LISTS, no_world, translate(3)))


if __name__ == "__main__":
    unittest.main()
