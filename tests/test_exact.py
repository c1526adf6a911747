"""Promises 8 and 9: exact and matrix."""

import unittest

from asking import APART, EQUAL, HOLDS, OVERLAP, WITHIN
from asking import ask, drop, exact, last, load, matrix, quick, record, tell, withdraw
from trees import turned

FAR = (-2147483648, 2147483647)
ONE_EACH = [load(0, "A"), load(1, "X")]
LISTS = [load(0, "A\n B\n C"), load(1, "X\n Y")]

# Four masks of two relations each: 16 choices.
SIXTEEN = [tell(1, 0, 100, 24), tell(2, 1, 101, 24), tell(3, 2, 100, 24), tell(4, 2, 101, 24)]


def after(lists, *calls):
    return ask(*lists, *calls)[len(lists):]


class ExactRefusals(unittest.TestCase):
    def test_concepts(self):
        for number in (-1, 3, 8, 99, 102, 108, 200, -100) + FAR:
            self.assertEqual([-1], last(*LISTS, exact(number, 100)), number)
            self.assertEqual([-2], last(*LISTS, exact(0, number)), number)

    def test_without_lists(self):
        self.assertEqual([[-1]], ask(exact(0, 100)))
        self.assertEqual([-2], last(load(0, "A"), exact(0, 100)))
        self.assertEqual([-1], last(load(1, "A"), exact(0, 100)))
        self.assertEqual([1], last(load(1, "A"), exact(100, 100)))

    def test_order(self):
        too_many = SIXTEEN + [tell(5, 0, 101, 24)]
        self.assertEqual([[-1], [-1], [-2], [-3], [-3]], after(LISTS + too_many, exact(9, 9), exact(9, 0), exact(0, 9),
                                                              exact(0, 1), exact(0, 0)))

    def test_number_of_choices(self):
        self.assertEqual([31], last(*ONE_EACH, exact(0, 100)))
        self.assertEqual([24], last(*LISTS, *SIXTEEN, exact(0, 100)))
        self.assertEqual([-3], last(*LISTS, *SIXTEEN, tell(5, 0, 1, 6), exact(0, 100)))
        # 1 * 4 * 4 choices, 2 * 3 * 3, and 5 * 4.
        self.assertEqual([15], last(*ONE_EACH, tell(1, 0, 100, 15), tell(2, 100, 0, 15), exact(0, 100)))
        self.assertEqual([-3], last(*ONE_EACH, tell(1, 0, 100, 3), tell(2, 0, 100, 7), tell(3, 0, 100, 7),
                                    exact(0, 100)))
        self.assertEqual([-3], last(*ONE_EACH, tell(1, 0, 100, 31), tell(2, 100, 0, 15), exact(0, 100)))

    def test_one_relation_makes_no_more_choices(self):
        single = [tell(key, 0, 100, 8) for key in range(5, 21)]
        self.assertEqual([8], last(*LISTS, *SIXTEEN, *single, exact(0, 100)))

    def test_too_many_without_a_world(self):
        self.assertEqual([-3], last(*LISTS, *SIXTEEN, tell(5, 0, 1, 24), tell(6, 0, 100, 1), exact(0, 100)))

    def test_what_is_withdrawn_does_not_count(self):
        five = SIXTEEN + [tell(5, 0, 101, 24)]
        for key in range(1, 6):
            self.assertEqual([[-3], [0]], after(LISTS + five, exact(0, 100), withdraw(key)))
            self.assertNotEqual([-3], last(*LISTS, *five, withdraw(key), exact(0, 100)))

    def test_records_make_no_choices(self):
        records = [record(key, [0], [1]) for key in range(1, 11)]
        self.assertEqual([24], last(*LISTS, *SIXTEEN, *records, exact(0, 100)))


class Exact(unittest.TestCase):
    def check(self, text, other_text, calls, masks):
        """masks: by pairs."""
        start = [load(0, text), load(1, other_text)] + calls
        for (c, d), mask in masks.items():
            self.assertEqual([[mask], [turned(mask)]], after(start, exact(c, d), exact(d, c)), (calls, c, d))

    def test_nothing_told(self):
        self.check("A\nB", "X\n Y", [], {(0, 100): 31, (0, 101): 31, (1, 100): 31, (1, 101): 31})

    def test_told(self):
        for mask in range(1, 32):
            self.check("A", "X", [tell(1, 0, 100, mask)], {(0, 100): mask})
            self.check("A", "X", [tell(1, 100, 0, mask)], {(100, 0): mask})

    def test_told_both_ways(self):
        self.check("A", "X", [tell(1, 0, 100, WITHIN + HOLDS), tell(2, 100, 0, HOLDS + APART)], {(0, 100): WITHIN})
        self.check("A", "X", [tell(1, 0, 100, WITHIN), tell(2, 100, 0, WITHIN)], {(0, 100): 0, (0, 0): 0, (100, 100): 0})

    def test_a_concept_with_itself(self):
        for number in (0, 1, 2, 100, 101):
            self.assertEqual([1], last(*LISTS, exact(number, number)))
            self.assertEqual([0], last(*LISTS, tell(1, 0, 1, APART), exact(number, number)))
            self.assertEqual([0], last(*LISTS, record(1, [100], [100]), exact(number, number)))

    def test_two_concepts_of_one_list(self):
        self.check("A\n B", "X", [], {(0, 1): EQUAL + HOLDS})
        self.check("A +\n B", "X", [], {(0, 1): EQUAL})
        self.check("A\n B\n C", "X", [], {(0, 1): HOLDS, (1, 2): APART, (0, 2): HOLDS})
        self.check("A +\n B\n C", "X", [], {(0, 1): HOLDS, (1, 2): APART})
        self.check("X", "A\n B\n  C\nD", [], {(100, 102): EQUAL + HOLDS, (102, 101): EQUAL + WITHIN, (102, 103): APART})
        self.check("A\n B", "X", [tell(1, 1, 0, WITHIN)], {(0, 1): HOLDS})
        self.check("A\n B", "X", [tell(1, 0, 1, EQUAL + APART + OVERLAP)], {(0, 1): EQUAL})
        self.check("A\n B", "X", [tell(1, 1, 0, HOLDS)], {(0, 1): 0, (0, 100): 0})

    def test_no_world(self):
        for calls in ([tell(1, 0, 1, APART)], [tell(1, 1, 2, EQUAL)], [tell(1, 0, 100, 1), tell(2, 0, 100, 2)],
                      [record(1, [1, 2], [])], [record(1, [1], [0])], [record(1, [0, 100], [100])],
                      [tell(1, 0, 100, 3), record(1, [0], [100])]):
            self.check("A\n B\n C", "X", calls, {(0, 100): 0, (1, 100): 0, (0, 1): 0, (1, 2): 0, (0, 0): 0})

    def test_plus(self):
        told = [tell(1, 1, 100, APART), tell(2, 2, 100, APART)]
        self.check("A\n B\n C", "X", told, {(0, 100): HOLDS + OVERLAP + APART})
        self.check("A +\n B\n C", "X", told, {(0, 100): APART})
        self.check("X", "A +\n B\n C", [tell(1, 101, 0, WITHIN), tell(2, 102, 0, WITHIN)],
                   {(100, 0): EQUAL + WITHIN, (101, 0): WITHIN})
        self.check("X", "A\n B\n C", [tell(1, 101, 0, WITHIN), tell(2, 102, 0, WITHIN)],
                   {(100, 0): EQUAL + WITHIN + HOLDS + OVERLAP})

    def test_plus_above_a_plus(self):
        told = [tell(1, 2, 100, EQUAL)]
        self.check("A +\n B +\n  C", "X", told, {(0, 100): EQUAL, (1, 100): EQUAL, (0, 1): EQUAL})
        self.check("A +\n B\n  C", "X", told, {(0, 100): EQUAL + HOLDS, (1, 100): EQUAL + HOLDS, (0, 1): EQUAL})
        self.check("A\n B +\n  C", "X", told, {(0, 100): EQUAL + HOLDS, (1, 100): EQUAL, (0, 1): EQUAL + HOLDS})

    def test_plus_on_both_sides(self):
        # B is Y, C is Z, and there is nothing else in A and in X.
        told = [tell(1, 1, 101, EQUAL), tell(2, 2, 102, EQUAL)]
        self.check("A +\n B\n C", "X +\n Y\n Z", told, {(0, 100): EQUAL, (1, 102): APART})
        self.check("A\n B\n C", "X +\n Y\n Z", told, {(0, 100): EQUAL + HOLDS})
        self.check("A +\n B\n C", "X\n Y\n Z", told, {(0, 100): EQUAL + WITHIN})
        self.check("A\n B\n C", "X\n Y\n Z", told, {(0, 100): EQUAL + WITHIN + HOLDS + OVERLAP})

    def test_plus_and_a_told_overlap(self):
        # X meets A, so it meets the one part of A that isn't told to be apart from it.
        told = [tell(1, 0, 100, OVERLAP), tell(2, 1, 100, APART)]
        self.check("A +\n B\n C", "X", told, {(2, 100): WITHIN + OVERLAP})
        self.check("A\n B\n C", "X", told, {(2, 100): WITHIN + OVERLAP + APART})

    def test_records(self):
        self.check("A", "X", [record(1, [0, 100], [])], {(0, 100): 15})
        self.check("A", "X", [record(1, [0], [100])], {(0, 100): 28})
        self.check("A", "X", [record(1, [100], [0])], {(0, 100): 26})
        self.check("A", "X", [record(1, [0, 100], []), record(2, [0], [100]), record(3, [100], [0])], {(0, 100): 8})
        self.check("A", "X", [record(1, [], []), record(2, [], [0, 100]), record(3, [0, 0], [])], {(0, 100): 31})
        self.check("A", "X", [record(1, [0], [100]), drop(1)], {(0, 100): 31})

    def test_records_and_parts(self):
        # What's in A and neither in B nor in C can't be, if A is nothing but these.
        self.check("A\n B\n C", "X", [record(1, [0], [1, 2])], {(0, 1): HOLDS, (0, 100): 31})
        self.check("A +\n B\n C", "X", [record(1, [0], [1, 2])], {(0, 1): 0, (0, 100): 0})
        # What's in A and X and not in B is in C, if A is nothing but these.
        self.check("A +\n B\n C", "X", [record(1, [0, 100], [1])], {(2, 100): 15})
        self.check("A\n B\n C", "X", [record(1, [0, 100], [1])], {(2, 100): 31})

    def test_records_and_told_relations(self):
        told = [tell(1, 0, 100, EQUAL + WITHIN + APART)]
        self.check("A", "X", told + [record(1, [0], [100])], {(0, 100): APART})
        self.check("A", "X", told + [record(1, [100], [0])], {(0, 100): WITHIN + APART})
        self.check("A", "X", told + [record(1, [0, 100], [])], {(0, 100): EQUAL + WITHIN})

    def test_more_is_ruled_out_than_by_quick(self):
        told = [tell(1, 1, 100, APART)]
        start = [load(0, "A +\n B"), load(1, "X")] + told
        self.assertEqual([[2, 28, 16], [2, 16, 16]], after(start, quick(), matrix()))

    def test_possible_in_different_choices(self):
        # A is within X or within Y; then it is apart from the other.
        told = [tell(1, 0, 100, WITHIN + APART), tell(2, 0, 101, WITHIN + APART), record(1, [0], []),
                record(2, [100], [0]), tell(3, 0, 102, EQUAL)]
        self.check("A", "X\nY\nZ", told[:4], {(0, 100): WITHIN + APART, (0, 101): WITHIN + APART})
        self.check("A", "X\nY\nZ", told, {(0, 100): APART, (0, 101): APART, (0, 102): EQUAL})

    def test_follows_what_is_told_and_withdrawn(self):
        answered = after(ONE_EACH, tell(1, 0, 100, 3), exact(0, 100), tell(2, 0, 100, 5), exact(0, 100), withdraw(1),
                         exact(0, 100), record(1, [0], [100]), exact(0, 100), drop(1), withdraw(2), exact(0, 100))
        self.assertEqual([[3], [1], [5], [4], [31]], [answered[place] for place in (1, 3, 5, 7, 10)])


class Matrix(unittest.TestCase):
    def test_side_without_a_list(self):
        self.assertEqual([[0]], ask(matrix()))
        self.assertEqual([0], last(load(0, "A\n B"), matrix()))
        self.assertEqual([0], last(load(1, "A\n B"), matrix()))
        self.assertEqual([0], last(load(0, "A\n B"), tell(1, 0, 1, APART), matrix()))

    def test_too_many_choices(self):
        self.assertEqual([[0], [-1]], after(LISTS + SIXTEEN, tell(5, 0, 101, 24), matrix()))
        self.assertEqual(7, len(last(*LISTS, *SIXTEEN, matrix())))

    def test_too_many_choices_with_one_list(self):
        told = [tell(1, 0, 1, 31), tell(2, 0, 1, 15)]
        self.assertEqual([-1], last(load(0, "A\n B"), *told, matrix()))
        self.assertEqual([0], last(load(0, "A\n B"), *told, withdraw(1), matrix()))

    def test_no_world(self):
        self.assertEqual([6] + [0] * 6, last(*LISTS, tell(1, 1, 2, EQUAL), matrix()))
        self.assertEqual([6] + [0] * 6, last(*LISTS, record(1, [0], [0]), matrix()))

    def test_order_of_masks(self):
        told = [tell(1, 0, 100, 16), tell(2, 0, 101, 2), tell(3, 1, 100, 1), tell(4, 1, 102, 16)]
        for loads in ([load(0, "A\nB"), load(1, "X\nY\nZ")], [load(1, "X\nY\nZ"), load(0, "A\nB")]):
            self.assertEqual([6, 16, 2, 16, 1, 16, 16], last(*loads, *told, matrix()))

    def test_as_exact_answers(self):
        for calls in ([], SIXTEEN, [tell(7, 1, 101, 3), tell(2, 2, 100, 24), record(1, [0, 100], [1, 2])],
                      [tell(1, 101, 1, 12), record(4, [2], [100])], [tell(1, 0, 1, 1)]):
            pairs = [(c, d) for c in (0, 1, 2) for d in (100, 101)]
            answered = after(LISTS + calls, matrix(), *(exact(c, d) for c, d in pairs))
            self.assertEqual([6] + [one[0] for one in answered[1:]], answered[0])
            self.assertTrue(all(len(one) == 1 for one in answered[1:]))

    def test_by_hand(self):
        # B is Y; so what B lies under meets what Y lies under.
        self.assertEqual([6, 15, 4, 3, 1, 26, 16], last(*LISTS, tell(1, 1, 101, EQUAL), matrix()))


if __name__ == "__main__":
    unittest.main()
