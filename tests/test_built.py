"""Promise 14: built."""

import unittest

from asking import APART, EQUAL, HOLDS, OVERLAP, WITHIN
from asking import ask, built, drop, exact, last, load, quick, record, tell, withdraw

ONE_EACH = [load(0, "A"), load(1, "X")]


def points(*lists):
    """built's answer for these points."""
    answer = [len(lists)]
    for one in lists:
        answer += [len(one)] + one
    return answer


class OneConceptEach(unittest.TestCase):
    def check(self, calls, *lists):
        self.assertEqual(points(*lists), last(*ONE_EACH, *calls, built()), calls)

    def test_each_relation(self):
        self.check([tell(1, 0, 100, EQUAL)], [0, 100], [0, 100])
        self.check([tell(1, 0, 100, WITHIN)], [0, 100], [100])
        self.check([tell(1, 0, 100, HOLDS)], [0], [0, 100])
        self.check([tell(1, 0, 100, OVERLAP)], [0], [100], [0, 100])
        self.check([tell(1, 0, 100, APART)], [0], [100])

    def test_told_the_other_way(self):
        self.check([tell(1, 100, 0, WITHIN)], [0], [0, 100])
        self.check([tell(1, 100, 0, OVERLAP)], [0], [100], [0, 100])

    def test_told_twice_and_recorded(self):
        self.check([tell(1, 0, 100, 3), tell(2, 100, 0, 20)], [0, 100], [100])
        self.check([record(1, [0, 100], []), record(2, [0], [100]), record(3, [100], [0])], [0], [100], [0, 100])

    def test_many_choices_do_not_matter(self):
        many = [tell(key, 0, 100, 31) for key in range(1, 10)]
        self.check(many + [tell(10, 0, 100, OVERLAP)], [0], [100], [0, 100])
        self.assertEqual([-3], last(*ONE_EACH, *many, exact(0, 100)))

    def test_refused(self):
        for mask in range(1, 32):
            answer = last(*ONE_EACH, tell(1, 0, 100, mask), built())
            self.assertEqual(mask not in (1, 2, 4, 8, 16), answer == [-1], mask)
        self.assertEqual([-1], last(*ONE_EACH, built()))

    def test_a_mask_of_0(self):
        self.assertEqual([-1], last(*ONE_EACH, tell(1, 0, 100, 1), tell(2, 0, 100, 2), built()))
        self.assertEqual([-1], last(*ONE_EACH, record(1, [0], [0]), built()))
        self.assertEqual([-1], last(*ONE_EACH, tell(1, 0, 100, 1), record(1, [], [0]), record(2, [100], [0]), built()))

    def test_what_is_not_in_force_counts_for_nothing(self):
        self.check([tell(1, 0, 100, 1), tell(2, 0, 100, 2), withdraw(1)], [0, 100], [100])
        self.check([tell(1, 0, 100, 1), record(1, [100], [0]), drop(1)], [0, 100], [0, 100])
        self.assertEqual([-1], last(*ONE_EACH, tell(1, 0, 100, 1), withdraw(1), built()))


class Lists(unittest.TestCase):
    def test_no_lists(self):
        self.assertEqual([[0]], ask(built()))
        self.assertEqual([0], last(record(1, [], []), built()))

    def test_one_list_alone(self):
        self.assertEqual(points([0]), last(load(0, "A"), built()))
        self.assertEqual(points([100]), last(load(1, "A"), built()))
        self.assertEqual(points([0], [1]), last(load(0, "A\nB"), built()))
        self.assertEqual(points([100], [100, 101], [100, 102]), last(load(1, "A\n B\n C"), built()))
        self.assertEqual([-1], last(load(0, "A\n B"), built()))
        self.assertEqual([-1], last(load(1, "A\n B\nC"), built()))

    def test_told_of_two_concepts_of_one_list(self):
        self.assertEqual(points([0], [0, 1]), last(load(0, "A\n B"), tell(1, 1, 0, WITHIN), built()))
        self.assertEqual(points([0], [0, 1]), last(load(0, "A\n B"), tell(1, 0, 1, 30), built()))
        self.assertEqual(points([100, 101], [100, 101]), last(load(1, "A\n B"), tell(1, 101, 100, 1 + 16), built()))
        self.assertEqual([-1], last(load(0, "A\n B"), tell(1, 0, 1, OVERLAP), built()))
        self.assertEqual([-1], last(load(0, "A\nB"), tell(1, 0, 1, EQUAL), built()))

    def test_plus_does_not_matter(self):
        self.assertEqual([-1], last(load(0, "A +\n B"), built()))
        self.assertEqual(points([0], [0, 1]), last(load(0, "A +\n B"), tell(1, 0, 1, HOLDS), built()))

    def test_masks_of_one_list_count_too(self):
        start = [load(0, "A\n B"), load(1, "X"), tell(1, 0, 100, APART)]
        self.assertEqual([[2, 16, 16], [-1]], ask(*start, quick(), built())[3:])
        self.assertEqual(points([0], [0, 1], [100]), last(*start, tell(2, 0, 1, HOLDS), built()))
        start = [load(0, "A"), load(1, "X\n Y"), tell(1, 0, 100, APART)]
        self.assertEqual([-1], last(*start, built()))
        self.assertEqual(points([0], [100], [100, 101]), last(*start, tell(2, 101, 100, WITHIN), built()))

    def test_overlaps_and_chains(self):
        start = [load(0, "A\n B"), load(1, "X"), tell(1, 0, 1, HOLDS), tell(2, 1, 100, OVERLAP)]
        self.assertEqual([-1], last(*start, built()))
        self.assertEqual(points([0], [0, 1], [0, 100], [0, 1, 100]), last(*start, tell(3, 0, 100, HOLDS), built()))
        self.assertEqual(points([0], [0, 1], [100], [0, 100], [0, 1, 100]),
                         last(*start, tell(3, 0, 100, OVERLAP), built()))

    def test_order_of_points(self):
        told = [tell(1, 1, 101, OVERLAP), tell(2, 0, 101, OVERLAP), tell(3, 1, 100, OVERLAP), tell(4, 0, 100, OVERLAP)]
        wanted = points([0], [1], [100], [101], [0, 100], [0, 101], [1, 100], [1, 101])
        for loads in ([load(0, "A\nB"), load(1, "X\nY")], [load(1, "X\nY"), load(0, "A\nB")]):
            self.assertEqual(wanted, last(*loads, *told, built()))
            self.assertEqual(wanted, last(*loads, *reversed(told), built()))

    def test_equal_concepts(self):
        told = [tell(1, 0, 100, EQUAL), tell(2, 1, 0, EQUAL), tell(3, 101, 100, WITHIN)]
        self.assertEqual(points([0, 1, 100], [0, 1, 100], [0, 1, 100], [0, 1, 100, 101]),
                         last(load(0, "A\n B"), load(1, "X\n Y"), *told, built()))

    def test_overlaps_on_both_sides(self):
        told = [tell(1, 0, 1, HOLDS), tell(2, 100, 101, HOLDS), tell(3, 1, 101, OVERLAP), tell(4, 0, 100, OVERLAP),
                tell(5, 1, 100, WITHIN), tell(6, 0, 101, OVERLAP)]
        self.assertEqual(points([0], [0, 1, 100], [100], [100, 101], [0, 100], [0, 100, 101], [0, 1, 100, 101]),
                         last(load(0, "A\n B"), load(1, "X\n Y"), *told, built()))

    def test_no_world_where_the_table_is_settled(self):
        # The table doesn't look at pluses: here there is no world, and points all the same.
        start = [load(0, "A +\n B"), load(1, "X"), tell(1, 0, 1, HOLDS), tell(2, 0, 100, APART)]
        self.assertEqual([[0], points([0], [0, 1], [100])], ask(*start, exact(0, 0), built())[4:])


if __name__ == "__main__":
    unittest.main()
