"""Promise 10: model."""

import unittest

from asking import APART, EQUAL, HOLDS, OVERLAP, WITHIN, ask, drop, last, load, model, record, tell, withdraw

ONE_EACH = [load(0, "A"), load(1, "X")]
NOWHERE = (-1, -1)


def spots(*pairs):
    """model's answer for these spots."""
    return [len(pairs)] + [number for pair in pairs for number in pair]


class Spots(unittest.TestCase):
    def test_no_lists(self):
        self.assertEqual([[1, -1, -1]], ask(model()))
        self.assertEqual([1, -1, -1], last(record(1, [], []), model()))

    def test_one_list(self):
        self.assertEqual(spots(NOWHERE, (0, -1), (1, -1)), last(load(0, "A\n B"), model()))
        self.assertEqual(spots(NOWHERE, (-1, 100), (-1, 101)), last(load(1, "A\n B"), model()))

    def test_order(self):
        wanted = spots(NOWHERE, (-1, 100), (-1, 101), (0, -1), (0, 100), (0, 101), (1, -1), (1, 100), (1, 101))
        self.assertEqual(wanted, last(load(0, "A\nB"), load(1, "X\n Y"), model()))
        self.assertEqual(wanted, last(load(1, "X\n Y"), load(0, "A\nB"), model()))

    def test_concepts_with_a_plus_are_deepest_for_nothing(self):
        self.assertEqual(spots(NOWHERE, (-1, 100), (1, -1), (1, 100)), last(load(0, "A +\n B"), load(1, "X"), model()))
        self.assertEqual(spots(NOWHERE, (-1, 102), (0, -1), (0, 102)),
                         last(load(0, "A"), load(1, "X +\n Y +\n  Z"), model()))
        self.assertEqual(spots(NOWHERE, (0, -1), (2, -1), (3, -1)), last(load(0, "A\n B +\n  C\nD"), model()))

    def test_eight_concepts_each(self):
        numbers = [-1] + list(range(8))
        others = [-1] + list(range(100, 108))
        self.assertEqual(spots(*((c, d) for c in numbers for d in others)),
                         last(load(0, "A\n B\n  C\n D\nE\nF\nG\n H"), load(1, "\n".join("ABCDEFGH")), model()))


class Choices(unittest.TestCase):
    def check(self, calls, *pairs):
        self.assertEqual(spots(NOWHERE, *pairs), last(*ONE_EACH, *calls, model()), calls)

    def test_each_relation(self):
        self.check([tell(1, 0, 100, EQUAL)], (0, 100))
        self.check([tell(1, 0, 100, WITHIN)], (-1, 100), (0, 100))
        self.check([tell(1, 0, 100, HOLDS)], (0, -1), (0, 100))
        self.check([tell(1, 0, 100, OVERLAP)], (-1, 100), (0, -1), (0, 100))
        self.check([tell(1, 0, 100, APART)], (-1, 100), (0, -1))
        self.check([tell(1, 100, 0, WITHIN)], (0, -1), (0, 100))
        self.check([tell(1, 100, 0, HOLDS)], (-1, 100), (0, 100))

    def test_relations_are_chosen_in_their_order(self):
        self.check([tell(1, 0, 100, 31)], (0, 100))
        self.check([tell(1, 0, 100, 30)], (-1, 100), (0, 100))
        self.check([tell(1, 0, 100, 28)], (0, -1), (0, 100))
        self.check([tell(1, 0, 100, 24)], (-1, 100), (0, -1), (0, 100))

    def test_the_first_choice_does_not_stand(self):
        self.check([tell(1, 0, 100, 31), record(1, [100], [0])], (-1, 100), (0, 100))
        self.check([tell(1, 0, 100, 31), record(1, [0], [100])], (0, -1), (0, 100))
        self.check([tell(1, 0, 100, 31), record(1, [0], [100]), record(2, [100], [0])], (-1, 100), (0, -1), (0, 100))
        self.check([tell(1, 0, 100, EQUAL + WITHIN + APART), record(1, [0], [100])], (-1, 100), (0, -1))
        self.check([tell(1, 0, 100, 7), tell(2, 0, 100, 28)], (0, -1), (0, 100))

    def test_what_is_not_in_force_counts_for_nothing(self):
        self.check([tell(1, 0, 100, 1), withdraw(1)], (-1, 100), (0, -1), (0, 100))
        self.check([tell(1, 0, 100, 3), record(1, [100], [0]), drop(1)], (0, 100))

    def test_order_of_choices_is_by_keys(self):
        # A is within X or within Y, not within both; the least key's told relation is within before the other is.
        lists = [load(0, "A"), load(1, "X\nY")]
        in_x = spots(NOWHERE, (-1, 100), (-1, 101), (0, 100))
        in_y = spots(NOWHERE, (-1, 100), (-1, 101), (0, 101))
        mask = WITHIN + APART
        for first, second, wanted in ((2, 5, in_x), (5, 2, in_y), (9, 10, in_x), (10, 9, in_y)):
            of_x, of_y = tell(first, 0, 100, mask), tell(second, 0, 101, mask)
            self.assertEqual(wanted, last(*lists, of_x, of_y, model()))
            self.assertEqual(wanted, last(*lists, of_y, of_x, model()))

    def test_last_of_sixteen_choices(self):
        # Each of A, B, C, D is within X or apart from it, and X has something that is in none but could be in any.
        lists = [load(0, "A\nB\nC\nD"), load(1, "X")]
        told = [tell(key, key - 1, 100, HOLDS + APART) for key in (4, 2, 1, 3)]
        self.assertEqual(spots(NOWHERE, (0, -1), (0, 100), (1, -1), (2, -1), (3, -1)), last(*lists, *told, model()))
        self.assertEqual(spots(NOWHERE, (0, -1), (1, -1), (1, 100), (2, -1), (3, -1)),
                         last(*lists, *told, record(1, [1, 100], []), model()))
        self.assertEqual(spots(NOWHERE, (-1, 100), (0, -1), (1, -1), (2, -1), (3, -1)),
                         last(*lists, *told, record(1, [100], [0, 1, 2, 3]), model()))

    def test_told_relations_of_one_list(self):
        lists = [load(0, "A\n B"), load(1, "X")]
        self.assertEqual(spots(NOWHERE, (-1, 100), (1, -1), (1, 100)), last(*lists, tell(1, 0, 1, 31), model()))
        self.assertEqual(spots(NOWHERE, (-1, 100), (0, -1), (0, 100), (1, -1), (1, 100)),
                         last(*lists, tell(1, 0, 1, HOLDS), model()))


class Refusals(unittest.TestCase):
    def test_too_many_choices(self):
        sixteen = [tell(1, 0, 100, 15), tell(2, 0, 100, 15)]
        self.assertEqual(spots(NOWHERE, (0, 100)), last(*ONE_EACH, *sixteen, model()))
        self.assertEqual([-1], last(*ONE_EACH, *sixteen, tell(3, 0, 100, 3), model()))
        self.assertEqual([-1], last(*ONE_EACH, tell(1, 0, 100, 31), tell(2, 0, 100, 15), model()))

    def test_none_stands(self):
        self.assertEqual([-2], last(*ONE_EACH, tell(1, 0, 100, 1), tell(2, 0, 100, 30), model()))
        self.assertEqual([-2], last(*ONE_EACH, record(1, [100], [100]), model()))
        self.assertEqual([-2], last(load(0, "A +\n B"), record(1, [0], [1]), model()))
        self.assertEqual([-2], last(load(1, "A\nB"), tell(1, 100, 101, 15), model()))

    def test_order(self):
        self.assertEqual([-1], last(*ONE_EACH, record(1, [0], [0]), tell(1, 0, 100, 31), tell(2, 0, 100, 31), model()))


if __name__ == "__main__":
    unittest.main()
