"""Promise 11: conflict."""

import unittest

from asking import APART, EQUAL, HOLDS, OVERLAP, WITHIN, ask, conflict, drop, last, load, record, tell, withdraw

LISTS = [load(0, "A\n B\n C"), load(1, "X\n Y")]


def stays(told, records):
    """conflict's answer for these keys."""
    return [len(told)] + told + [len(records)] + records


class Refusals(unittest.TestCase):
    def test_there_is_a_world(self):
        self.assertEqual([[-2]], ask(conflict()))
        for calls in ([], [tell(1, 0, 100, 1)], [record(1, [0], [100])], [tell(1, 0, 100, 3), tell(2, 0, 100, 18)],
                      [tell(1, 0, 1, APART), withdraw(1)], [record(1, [0], [0]), drop(1)]):
            self.assertEqual([-2], last(*LISTS, *calls, conflict()))

    def test_too_many_choices(self):
        many = [tell(11, 0, 100, 15), tell(12, 0, 100, 15), tell(13, 0, 101, 24)]
        self.assertEqual([-1], last(*LISTS, *many, conflict()))
        self.assertEqual([-1], last(*LISTS, *many, tell(1, 0, 1, APART), conflict()))
        self.assertEqual([-1], last(*LISTS, record(1, [0], [0]), *many, conflict()))
        self.assertEqual(stays([], [1]), last(*LISTS, record(1, [0], [0]), *many[:2], conflict()))


class ToldRelations(unittest.TestCase):
    def check(self, told, calls, records=()):
        self.assertEqual(stays(told, list(records)), last(*LISTS, *calls, conflict()), calls)

    def test_one_alone(self):
        self.check([7], [tell(7, 0, 1, APART)])
        self.check([7], [tell(7, 1, 2, EQUAL + OVERLAP)])
        self.check([7], [tell(7, 101, 100, HOLDS)])

    def test_two_of_three_that_exclude_one_another(self):
        three = {1: tell(1, 0, 100, EQUAL), 2: tell(2, 0, 100, APART), 3: tell(3, 0, 100, OVERLAP)}
        for order in ((1, 2, 3), (3, 2, 1), (2, 3, 1)):
            self.check([2, 3], [three[key] for key in order])

    def test_the_least_keys_are_left_out_first(self):
        self.check([20, 30], [tell(30, 0, 100, EQUAL), tell(10, 0, 100, EQUAL), tell(20, 0, 100, APART)])
        self.check([10, 30], [tell(30, 0, 100, APART), tell(10, 0, 100, EQUAL), tell(9, 0, 100, EQUAL)])
        self.check([9, 10], [tell(10, 0, 100, EQUAL), tell(9, 0, 100, APART)])

    def test_what_has_no_part_in_it_is_left_out(self):
        self.check([4, 6], [tell(3, 1, 101, 24), tell(4, 0, 100, EQUAL), tell(5, 2, 101, 24), tell(6, 0, 100, APART),
                            tell(7, 2, 100, WITHIN + APART)])

    def test_all_of_three_stay(self):
        # B within Y and Y within C: B would be within C, but they are apart.
        self.check([1, 2], [tell(1, 1, 101, WITHIN), tell(2, 101, 2, WITHIN), tell(3, 0, 100, HOLDS)])
        self.check([1, 2, 3], [tell(3, 1, 101, EQUAL), tell(1, 1, 100, APART + EQUAL), tell(2, 100, 101, HOLDS)])

    def test_withdrawn_ones_do_not_count(self):
        self.check([3, 4], [tell(1, 0, 100, EQUAL), tell(3, 0, 100, APART), tell(4, 0, 100, OVERLAP), withdraw(1)])

    def test_no_world_for_a_reason_that_quick_does_not_see(self):
        calls = [load(0, "A +\n B"), load(1, "X"), tell(5, 1, 100, APART), tell(6, 0, 100, HOLDS)]
        self.assertEqual(stays([5, 6], []), last(*calls, conflict()))


class Records(unittest.TestCase):
    def check(self, told, records, calls):
        self.assertEqual(stays(told, records), last(*LISTS, *calls, conflict()), calls)

    def test_records_alone(self):
        self.check([], [8], [record(8, [0], [0])])
        self.check([], [8], [record(8, [1, 2], [])])
        self.check([], [8], [record(8, [101], [100]), record(9, [0], [100])])

    def test_records_that_each_can_not_be(self):
        for order in ((1, 2, 3), (3, 1, 2)):
            self.check([], [3], [record(key, [key - 1], [key - 1]) for key in order])

    def test_told_relations_are_left_out_where_records_alone_can_not_be(self):
        self.check([], [8], [tell(1, 0, 100, EQUAL), tell(2, 0, 100, APART), record(8, [1], [0])])

    def test_records_are_left_out_where_told_relations_alone_can_not_hold(self):
        self.check([1, 2], [], [tell(1, 0, 100, EQUAL), tell(2, 0, 100, APART), record(7, [0], [1])])

    def test_told_relations_with_records(self):
        self.check([1], [5], [tell(1, 0, 100, WITHIN), record(5, [0], [100]), record(6, [0, 100], [])])
        self.check([1], [6], [record(6, [0], [100]), record(5, [0, 100], []), tell(1, 0, 100, WITHIN)])
        self.check([1], [5, 6], [tell(1, 0, 100, WITHIN + APART), record(6, [0], [100]), record(5, [0, 100], [])])

    def test_records_go_with_the_told_relations_that_stayed(self):
        # 1 can't hold with record 5, 2 not with record 6: once 1 is left out, 5 is too.
        calls = [tell(1, 1, 100, WITHIN), tell(2, 2, 100, WITHIN), record(5, [1], [100]), record(6, [2], [100])]
        self.check([2], [6], calls)
        self.check([2], [6], list(reversed(calls)))
        self.check([2], [5], calls[:2] + [record(6, [1], [100]), record(5, [2], [100])])

    def test_all_records_are_there_while_told_relations_are_gone_through(self):
        # Told relation 1 alone holds with the records; 2 and record 9 don't hold together.
        self.check([2], [9], [tell(1, 1, 101, EQUAL), tell(2, 0, 100, APART), record(9, [0, 100], [])])
        self.check([4], [8], [tell(3, 1, 101, APART), tell(4, 1, 101, APART), record(8, [1, 101], [])])

    def test_dropped_ones_do_not_count(self):
        self.check([1], [5], [tell(1, 0, 100, WITHIN), record(4, [0], [0]), record(5, [0], [100]), drop(4)])

    def test_same_keys_for_both(self):
        self.check([1], [1], [record(1, [0], [100]), record(2, [0], []), tell(2, 0, 101, 24), tell(1, 0, 100, WITHIN)])

    def test_more_than_one_of_each(self):
        self.check([3, 1000000000], [4, 999], [
            tell(1000000000, 0, 100, 31 - HOLDS), tell(3, 0, 100, 31 - OVERLAP), record(999, [0], [100]),
            record(4, [0, 100], []), record(3, [100], []), record(1000, [], [])])
        # With this record more is asked for, and one told relation is enough.
        self.check([3], [3, 4, 999], [
            tell(1000000000, 0, 100, 31 - HOLDS), tell(3, 0, 100, 31 - OVERLAP), record(999, [0], [100]),
            record(4, [0, 100], []), record(3, [100], [0])])


if __name__ == "__main__":
    unittest.main()
