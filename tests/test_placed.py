"""Promise 13: placed."""

import unittest

from asking import APART, EQUAL, HOLDS, OVERLAP, WITHIN, ask, drop, last, load, placed, record, tell, withdraw

FAR = (-2147483648, 2147483647)
LISTS = [load(0, "A\n B\n C"), load(1, "X\n Y")]


class Placed(unittest.TestCase):
    def check(self, first, second, calls, *numbers):
        answer = last(*LISTS, record(5, first, second), *calls, placed(5))
        self.assertEqual([len(numbers)] + list(numbers), answer, (first, second, calls))

    def test_nothing_told(self):
        self.check([0], [], [], 2, 1, 1, 1, 1)
        self.check([1], [], [], 2, 2, 0, 1, 1)
        self.check([101], [], [], 1, 1, 1, 2, 2)
        self.check([1, 101], [], [], 2, 2, 0, 2, 2)
        self.check([2, 2], [], [], 2, 0, 2, 1, 1)

    def test_second_concepts(self):
        self.check([], [0], [], 0, 0, 0, 1, 1)
        self.check([], [1], [], 1, 0, 1, 1, 1)
        self.check([0], [1], [], 2, 0, 1, 1, 1)
        self.check([0], [1, 2, 101], [], 2, 0, 0, 1, 0)
        self.check([], [0, 100], [], 0, 0, 0, 0, 0)

    def test_empty_lists(self):
        self.check([], [], [], 1, 1, 1, 1, 1)
        self.check([], [], [tell(1, 0, 100, EQUAL)], 1, 1, 1, 1, 1)
        self.assertEqual([[0], [0]], ask(record(5, [], []), placed(5)))
        self.assertEqual([2, 1, 1], last(load(1, "X\n Y"), record(5, [], []), placed(5)))

    def test_told(self):
        self.check([1], [], [tell(1, 1, 101, WITHIN)], 2, 2, 0, 2, 2)
        self.check([1], [], [tell(1, 1, 101, EQUAL)], 2, 2, 0, 2, 2)
        self.check([1], [], [tell(1, 1, 101, HOLDS)], 2, 2, 0, 1, 1)
        self.check([1], [], [tell(1, 1, 101, OVERLAP)], 2, 2, 0, 1, 1)
        self.check([1], [], [tell(1, 1, 101, APART)], 2, 2, 0, 1, 0)
        self.check([1], [], [tell(1, 0, 100, APART)], 2, 2, 0, 0, 0)
        self.check([101], [], [tell(1, 1, 101, HOLDS)], 2, 2, 0, 2, 2)
        self.check([101], [], [tell(1, 101, 1, WITHIN)], 2, 2, 0, 2, 2)
        self.check([0], [101], [tell(1, 1, 101, EQUAL)], 2, 0, 1, 1, 0)

    def test_several_choices_that_stand(self):
        # In each choice it is sure, in one so and in the other so.
        self.check([1], [], [tell(1, 1, 101, WITHIN + APART)], 2, 2, 0, 1, 1)
        self.check([1], [], [tell(1, 1, 100, WITHIN + APART)], 2, 2, 0, 1, 1)
        self.check([1], [], [tell(1, 1, 101, EQUAL + WITHIN)], 2, 2, 0, 2, 2)
        self.check([100], [101], [tell(1, 1, 100, EQUAL + APART), tell(2, 2, 100, EQUAL + APART),
                                  tell(3, 0, 100, 31 - APART)], 1, 1, 1, 2, 0)

    def test_choices_that_do_not_stand_count_for_nothing(self):
        # In one choice they are apart, but then nothing is in both, and a record says that something is.
        told = [tell(1, 1, 101, WITHIN + APART)]
        self.check([1], [], told + [record(6, [1, 101], [])], 2, 2, 0, 2, 2)
        self.check([1], [], told + [record(6, [1], [101])], 2, 2, 0, 1, 0)

    def test_the_record_itself_rules_choices_out(self):
        told = [tell(1, 1, 101, WITHIN + APART), tell(2, 2, 100, WITHIN + APART)]
        self.check([1, 100], [101], told, 2, 2, 0, 2, 0)
        self.check([2, 100], [], told, 2, 0, 2, 2, 1)

    def test_plus(self):
        lists = [load(0, "A +\n B\n C"), load(1, "X\n Y")]
        self.assertEqual([5, 2, 0, 2, 1, 1], last(*lists, record(5, [0], [1]), placed(5)))
        self.assertEqual([5, 2, 2, 0, 2, 2], last(*lists, record(5, [0, 101], []), tell(1, 2, 101, APART), placed(5)))

    def test_each_record_by_its_key(self):
        records = [record(1000000000, [1], []), record(1, [2], []), record(20, [101], [])]
        answered = ask(*LISTS, *records, placed(1), placed(1000000000), placed(20))
        self.assertEqual([[5, 2, 0, 2, 1, 1], [5, 2, 2, 0, 1, 1], [5, 1, 1, 1, 2, 2]], answered[5:])

    def test_lists_loaded_in_either_order(self):
        calls = [load(1, "X\n Y"), load(0, "A\nB"), record(5, [1, 100], [101])]
        self.assertEqual([4, 0, 2, 2, 0], last(*calls, placed(5)))

    def test_one_list_alone(self):
        self.assertEqual([3, 2, 1, 1], last(LISTS[0], record(5, [0], []), placed(5)))
        self.assertEqual([2, 2, 0], last(LISTS[1], record(5, [100], [101]), placed(5)))

    def test_list_loaded_behind_the_record(self):
        self.assertEqual([5, 2, 2, 0, 1, 1], last(LISTS[0], record(5, [1], []), LISTS[1], placed(5)))


class Refusals(unittest.TestCase):
    MANY = [tell(1, 0, 100, 15), tell(2, 0, 100, 15), tell(3, 0, 100, 24)]

    def test_no_record_in_force(self):
        self.assertEqual([[-1]], ask(placed(1)))
        for key in (-1, 0, 1, 1000000000, 1000000001) + FAR:
            self.assertEqual([-1], last(*LISTS, record(5, [0], []), placed(key)))

    def test_dropped_record(self):
        answered = ask(*LISTS, record(5, [0], []), record(6, [1], []), drop(5), placed(5), placed(6))
        self.assertEqual([[-1], [5, 2, 2, 0, 1, 1]], answered[5:])

    def test_key_of_a_told_relation(self):
        self.assertEqual([-1], last(*LISTS, tell(5, 0, 100, 1), placed(5)))

    def test_refused_record(self):
        self.assertEqual([-1], last(*LISTS, record(5, [9], []), placed(5)))

    def test_too_many_choices(self):
        self.assertEqual([-2], last(*LISTS, record(5, [0], []), *self.MANY, placed(5)))
        self.assertEqual([5, 2, 1, 1, 1, 1], last(*LISTS, record(5, [0], []), *self.MANY, withdraw(3), placed(5)))

    def test_no_world(self):
        self.assertEqual([-3], last(*LISTS, record(5, [0], [0]), placed(5)))
        self.assertEqual([-3], last(*LISTS, record(5, [0], []), record(6, [1, 2], []), placed(5)))
        self.assertEqual([-3], last(*LISTS, record(5, [], []), tell(1, 1, 2, EQUAL), placed(5)))

    def test_order(self):
        self.assertEqual([-1], last(*LISTS, record(5, [0], [0]), *self.MANY, placed(6)))
        self.assertEqual([-2], last(*LISTS, record(5, [0], [0]), *self.MANY, placed(5)))
        self.assertEqual([-1], last(*LISTS, record(5, [0], [0]), placed(6)))


if __name__ == "__main__":
    unittest.main()
