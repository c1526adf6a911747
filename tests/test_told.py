"""Promises 3 and 4: tell and withdraw."""

import unittest

from asking import ask, last, load, quick, record, tell, withdraw

LISTS = [load(0, "A\n B\n C"), load(1, "X\n Y")]
BIGGEST_KEY = 1000000000
FAR = (-2147483648, 2147483647)


def after_lists(*calls):
    return ask(*LISTS, *calls)[len(LISTS):]


class Tell(unittest.TestCase):
    def told(self, call, number):
        self.assertEqual([[number]], after_lists(call), call)

    def test_told(self):
        self.told(tell(1, 0, 100, 1), 0)
        self.told(tell(7, 2, 101, 31), 0)
        self.told(tell(7, 101, 2, 16), 0)
        self.told(tell(7, 0, 2, 4), 0)
        self.told(tell(7, 100, 101, 8), 0)

    def test_keys(self):
        for key in (1, 2, BIGGEST_KEY - 1, BIGGEST_KEY):
            self.told(tell(key, 0, 100, 1), 0)
        for key in (0, -1, BIGGEST_KEY + 1) + FAR:
            self.told(tell(key, 0, 100, 1), -1)

    def test_concepts(self):
        for number in (0, 1, 2, 100, 101):
            other = 100 if number < 100 else 0
            self.told(tell(1, number, other, 1), 0)
            self.told(tell(1, other, number, 1), 0)
        for number in (-1, 3, 8, 99, 102, 108, 200, 201, -100) + FAR:
            self.told(tell(1, number, 100, 1), -2)
            self.told(tell(1, 0, number, 1), -3)

    def test_concept_with_itself(self):
        for number in (0, 2, 100, 101):
            self.told(tell(1, number, number, 1), -3)

    def test_masks(self):
        for mask in range(1, 32):
            self.told(tell(1, 0, 100, mask), 0)
        for mask in (0, -1, 32, 33, 64) + FAR:
            self.told(tell(1, 0, 100, mask), -4)

    def test_without_lists(self):
        self.assertEqual([[-2]], ask(tell(1, 0, 100, 1)))
        self.assertEqual([-3], last(load(0, "A"), tell(1, 0, 100, 1)))
        self.assertEqual([-2], last(load(1, "A"), tell(1, 0, 100, 1)))
        self.assertEqual([[1], [-3], [2], [0]], ask(load(0, "A"), tell(1, 0, 101, 1), load(1, "X\n Y"),
                                                   tell(1, 0, 101, 1)))

    def test_order_of_refusals(self):
        self.told(tell(0, 9, 9, 0), -1)
        self.told(tell(1, 9, 9, 0), -2)
        self.told(tell(1, 9, 0, 0), -2)
        self.told(tell(1, 0, 9, 0), -3)
        self.told(tell(1, 0, 0, 0), -3)
        used = tell(5, 0, 100, 1)
        self.assertEqual([[0], [-1], [-2], [-3], [-3], [-4], [-5]], after_lists(
            used, tell(0, 0, 100, 1), tell(5, 9, 100, 1), tell(5, 0, 9, 1), tell(5, 0, 0, 1), tell(5, 0, 100, 0),
            tell(5, 1, 101, 2)))

    def test_key_told_before(self):
        self.assertEqual([[0], [-5], [0], [-5], [0]], after_lists(
            tell(5, 0, 100, 1), tell(5, 0, 100, 1), withdraw(5), tell(5, 0, 100, 1), tell(6, 0, 100, 1)))

    def test_refused_key_is_not_used_up(self):
        self.assertEqual([[-4], [-3], [-2], [0]], after_lists(
            tell(5, 0, 100, 0), tell(5, 0, 9, 1), tell(5, 9, 0, 1), tell(5, 0, 100, 1)))

    def test_twenty_in_force(self):
        twenty = [tell(key, 0, 100, 31) for key in range(1, 21)]
        answered = after_lists(*twenty, tell(21, 0, 100, 31), tell(20, 0, 100, 31), tell(21, 0, 100, 32),
                               withdraw(3), tell(3, 0, 100, 31), tell(21, 0, 100, 31), tell(22, 0, 100, 31))
        self.assertEqual([[0]] * 20 + [[-6], [-5], [-4], [0], [-5], [0], [-6]], answered)

    def test_sixty_in_all(self):
        calls = []
        for key in range(1, 60):
            calls += [tell(key, 0, 100, 31), withdraw(key)]
        calls.append(tell(60, 0, 100, 31))
        answered = after_lists(*calls, tell(61, 0, 100, 31), tell(60, 0, 100, 31), tell(4, 0, 100, 31),
                               withdraw(60), tell(61, 0, 100, 31), tell(61, 0, 100, 0))
        self.assertEqual([[0]] * 119 + [[-7], [-5], [-5], [0], [-7], [-4]], answered)

    def test_twenty_in_force_and_sixty_in_all(self):
        calls = []
        for key in range(1, 41):
            calls += [tell(key, 0, 100, 31), withdraw(key)]
        calls += [tell(key, 0, 100, 31) for key in range(41, 61)]
        answered = after_lists(*calls, tell(61, 0, 100, 31), withdraw(41), tell(61, 0, 100, 31))
        self.assertEqual([[0]] * 100 + [[-6], [0], [-7]], answered)

    def test_refusals_count_for_no_bound(self):
        refused = [tell(key, 0, 100, 0) for key in range(1, 71)]
        twenty = [tell(key, 0, 100, 31) for key in range(1, 21)]
        self.assertEqual([[-4]] * 70 + [[0]] * 20 + [[-6]], after_lists(*refused, *twenty, tell(21, 0, 100, 31)))

    def test_refusal_changes_nothing(self):
        refused = [tell(0, 0, 100, 16), tell(2, 9, 100, 16), tell(2, 0, 9, 16), tell(2, 0, 100, 0),
                   tell(1, 0, 100, 16)]
        answered = after_lists(tell(1, 1, 101, 1), quick(), *refused, quick())
        self.assertEqual([[-1], [-2], [-3], [-4], [-5]], answered[2:7])
        self.assertEqual(answered[1], answered[7])


class Withdraw(unittest.TestCase):
    def test_none_in_force(self):
        for key in (-1, 0, 1, BIGGEST_KEY, BIGGEST_KEY + 1) + FAR:
            self.assertEqual([[-1]], ask(withdraw(key)))
            self.assertEqual([[0], [-1], [0]], after_lists(tell(2, 0, 100, 1), withdraw(key), withdraw(2)))

    def test_twice(self):
        for key in (1, 9, BIGGEST_KEY):
            self.assertEqual([[0], [0], [-1]], after_lists(tell(key, 0, 100, 1), withdraw(key), withdraw(key)))

    def test_only_that_key(self):
        answered = after_lists(tell(1, 0, 100, 16), tell(2, 1, 101, 1), withdraw(1), quick(), withdraw(1),
                               withdraw(2), quick())
        alone = after_lists(tell(2, 1, 101, 1), quick())
        self.assertEqual([[0], alone[1], [-1], [0], [6] + [31] * 6], answered[2:])

    def test_refused_told_relation_is_not_in_force(self):
        self.assertEqual([[-4], [-1]], after_lists(tell(1, 0, 100, 0), withdraw(1)))

    def test_record_with_that_key_does_not_count(self):
        self.assertEqual([[0], [-1]], after_lists(record(1, [0], []), withdraw(1)))


if __name__ == "__main__":
    unittest.main()
