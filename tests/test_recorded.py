"""Promises 5 and 6: record and drop."""

import unittest

from asking import ask, drop, last, load, quick, record, tell, withdraw

LISTS = [load(0, "A\n B\n C"), load(1, "X\n Y")]
BIGGEST_KEY = 1000000000
FAR = (-2147483648, 2147483647)
NOTHING_KNOWN = [6] + [31] * 6


def after_lists(*calls):
    return ask(*LISTS, *calls)[len(LISTS):]


class Record(unittest.TestCase):
    def recorded(self, call, number):
        self.assertEqual([[number]], after_lists(call), call)

    def test_recorded(self):
        self.recorded(record(1, [0], [100]), 0)
        self.recorded(record(1, [0, 1, 2, 100, 101], []), 0)
        self.recorded(record(1, [], [0, 1, 2, 100, 101]), 0)
        self.recorded(record(1, [101, 2], [100, 0]), 0)

    def test_keys(self):
        for key in (1, 2, BIGGEST_KEY - 1, BIGGEST_KEY):
            self.recorded(record(key, [0], [100]), 0)
        for key in (0, -1, BIGGEST_KEY + 1) + FAR:
            self.recorded(record(key, [0], [100]), -1)

    def test_concepts(self):
        for number in (-1, 3, 8, 99, 102, 108, 200, 201, -100) + FAR:
            self.recorded(record(1, [number], []), -2)
            self.recorded(record(1, [0, 100, number], [1]), -2)
            self.recorded(record(1, [], [number]), -3)
            self.recorded(record(1, [0], [1, number, 2]), -3)
            self.recorded(record(1, [number], [number]), -2)

    def test_without_lists(self):
        self.assertEqual([[0]], ask(record(1, [], [])))
        self.assertEqual([[-2]], ask(record(1, [0], [])))
        self.assertEqual([[-3]], ask(record(1, [], [0])))
        self.assertEqual([-2], last(load(0, "A"), record(1, [0, 100], [])))
        self.assertEqual([-3], last(load(1, "A"), record(1, [100], [0])))

    def test_empty_lists(self):
        self.assertEqual([[0], NOTHING_KNOWN], after_lists(record(1, [], []), quick()))
        self.assertEqual([[0], [0]], after_lists(record(1, [], []), drop(1)))

    def test_long_lists(self):
        self.recorded(record(1, [0] * 16, [100] * 16), 0)
        self.recorded(record(1, [0] * 15 + [3], [100] * 16), -2)
        self.recorded(record(1, [0] * 16, [100] * 15 + [102]), -3)

    def test_concept_twice(self):
        self.recorded(record(1, [0, 0], [100, 100]), 0)
        once = after_lists(record(1, [1], [101]), quick())
        self.assertEqual(once, after_lists(record(1, [1, 1, 1], [101, 101]), quick()))

    def test_concept_in_both_lists(self):
        for number in (0, 1, 100, 101):
            answered = after_lists(record(1, [number], [number]), quick(), drop(1), quick())
            self.assertEqual([[0], [6] + [0] * 6, [0], NOTHING_KNOWN], answered)

    def test_order_of_refusals(self):
        self.recorded(record(0, [9], [9]), -1)
        self.recorded(record(1, [9], [9]), -2)
        self.recorded(record(1, [0], [9]), -3)
        self.assertEqual([[0], [-1], [-2], [-3], [-4]], after_lists(
            record(5, [0], []), record(0, [0], []), record(5, [9], []), record(5, [0], [9]), record(5, [1], [2])))

    def test_key_recorded_before(self):
        self.assertEqual([[0], [-4], [0], [-4], [0]], after_lists(
            record(5, [0], []), record(5, [], []), drop(5), record(5, [], []), record(6, [], [])))

    def test_refused_key_is_not_used_up(self):
        self.assertEqual([[-2], [-3], [0]], after_lists(record(5, [9], []), record(5, [], [9]), record(5, [0], [])))

    def test_ten_in_force(self):
        ten = [record(key, [0], []) for key in range(1, 11)]
        answered = after_lists(*ten, record(11, [0], []), record(10, [0], []), record(11, [0], [9]), drop(3),
                               record(3, [0], []), record(11, [0], []), record(12, [0], []))
        self.assertEqual([[0]] * 10 + [[-5], [-4], [-3], [0], [-4], [0], [-5]], answered)

    def test_thirty_in_all(self):
        calls = []
        for key in range(1, 30):
            calls += [record(key, [0], []), drop(key)]
        calls.append(record(30, [0], []))
        answered = after_lists(*calls, record(31, [0], []), record(30, [0], []), record(4, [0], []), drop(30),
                               record(31, [0], []), record(31, [0], [9]))
        self.assertEqual([[0]] * 59 + [[-6], [-4], [-4], [0], [-6], [-3]], answered)

    def test_ten_in_force_and_thirty_in_all(self):
        calls = []
        for key in range(1, 21):
            calls += [record(key, [], []), drop(key)]
        calls += [record(key, [], []) for key in range(21, 31)]
        answered = after_lists(*calls, record(31, [], []), drop(21), record(31, [], []))
        self.assertEqual([[0]] * 50 + [[-5], [0], [-6]], answered)

    def test_refusals_count_for_no_bound(self):
        refused = [record(key, [9], []) for key in range(1, 41)]
        ten = [record(key, [0], []) for key in range(1, 11)]
        self.assertEqual([[-2]] * 40 + [[0]] * 10 + [[-5]], after_lists(*refused, *ten, record(11, [0], [])))

    def test_refusal_changes_nothing(self):
        refused = [record(0, [0], [0]), record(2, [0, 9], [0]), record(2, [0], [0, 9]), record(1, [0], [0])]
        answered = after_lists(record(1, [1], [101]), quick(), *refused, quick())
        self.assertEqual([[-1], [-2], [-3], [-4]], answered[2:6])
        self.assertEqual(answered[1], answered[6])


class Drop(unittest.TestCase):
    def test_none_in_force(self):
        for key in (-1, 0, 1, BIGGEST_KEY, BIGGEST_KEY + 1) + FAR:
            self.assertEqual([[-1]], ask(drop(key)))
            self.assertEqual([[0], [-1], [0]], after_lists(record(2, [0], []), drop(key), drop(2)))

    def test_twice(self):
        for key in (1, 9, BIGGEST_KEY):
            self.assertEqual([[0], [0], [-1]], after_lists(record(key, [0], []), drop(key), drop(key)))

    def test_only_that_key(self):
        answered = after_lists(record(1, [0], [100]), record(2, [1], [101]), drop(1), quick(), drop(1), drop(2),
                               quick())
        alone = after_lists(record(2, [1], [101]), quick())
        self.assertEqual([[0], alone[1], [-1], [0], NOTHING_KNOWN], answered[2:])

    def test_refused_record_is_not_in_force(self):
        self.assertEqual([[-2], [-1]], after_lists(record(1, [9], []), drop(1)))


class KeysOfBothKinds(unittest.TestCase):
    def test_same_key(self):
        self.assertEqual([[0], [0], [-5], [-4], [0], [-1], [0], [-1]], after_lists(
            tell(1, 0, 100, 1), record(1, [0], []), tell(1, 0, 100, 1), record(1, [0], []), withdraw(1), withdraw(1),
            drop(1), drop(1)))

    def test_dropping_a_told_key(self):
        self.assertEqual([[0], [-1], [0]], after_lists(tell(1, 0, 100, 1), drop(1), withdraw(1)))

    def test_bounds_do_not_touch(self):
        twenty = [tell(key, 0, 100, 31) for key in range(1, 21)]
        ten = [record(key, [0], []) for key in range(1, 11)]
        for calls in (twenty + ten, ten + twenty):
            self.assertEqual([[0]] * 30 + [[-6], [-5]],
                             after_lists(*calls, tell(21, 0, 100, 31), record(11, [0], [])))


if __name__ == "__main__":
    unittest.main()
