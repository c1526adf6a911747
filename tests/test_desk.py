"""The interface: several calls in one list, what is handed in, and what is kept."""

import unittest

from twolists.desk import answers

from asking import drop, load, quick, record, show, tell, withdraw


def joined(calls):
    return [number for call in calls for number in call]


class Answers(unittest.TestCase):
    def test_one_call_each(self):
        self.assertEqual([1, 1], answers([0, 0, 1, 65]))
        self.assertEqual([1, -101], answers([0, 0, 0]))
        self.assertEqual([1, -2], answers([1, 0]))
        self.assertEqual([1, -2], answers([2, 1, 0, 100, 31]))
        self.assertEqual([1, -1], answers([3, 1]))
        self.assertEqual([1, 0], answers([4, 1, 0, 0]))
        self.assertEqual([1, -1], answers([5, 1]))
        self.assertEqual([1, 0], answers([6]))
        self.assertEqual([1, -1], answers([7, 0, 100]))
        self.assertEqual([1, 0], answers([8]))
        self.assertEqual([3, 1, -1, -1], answers([9]))
        self.assertEqual([1, -2], answers([10]))
        self.assertEqual([1, -1], answers([11, 0]))
        self.assertEqual([1, -1], answers([12, 1]))
        self.assertEqual([1, 0], answers([13]))

    def test_several_calls(self):
        calls = [0, 0, 4, 65, 10, 32, 66,  # A with its part B
                 0, 1, 1, 67,
                 1, 0,
                 2, 8, 0, 100, 4,
                 4, 8, 2, 1, 100, 0,
                 6,
                 3, 8,
                 5, 8,
                 6]
        self.assertEqual([1, 2,
                          1, 1,
                          5, 0, 65, 10, 32, 66,
                          1, 0,
                          1, 0,
                          3, 2, 4, 15,
                          1, 0,
                          1, 0,
                          3, 2, 31, 31], answers(calls))

    def test_rows_of_refused_calls_are_passed_over(self):
        self.assertEqual([1, -1, 1, -1, 1, -101, 1, 0],
                         answers([0, 5, 2, 65, 66, 4, 0, 1, 6, 2, 6, 6, 0, 0, 3, 6, 6, 6, 6]))

    def test_what_is_handed_in_stays(self):
        calls = joined([load(0, "A\n B"), load(1, "C"), show(0), tell(1, 0, 100, 3), record(1, [1, 1], [100]),
                        quick(), withdraw(1), drop(1), quick(), show(1), load(0, "D"), quick()])
        before = list(calls)
        answers(calls)
        self.assertEqual(before, calls)

    def test_same_list_twice(self):
        calls = joined([load(0, "A\n B"), load(1, "C"), tell(1, 0, 100, 3), record(1, [1], [100]), quick(),
                        show(0), show(1)])
        first = answers(calls)
        kept = list(first)
        second = answers(calls)
        self.assertEqual(first, second)
        first.clear()
        self.assertEqual(kept, answers(calls))

    def test_nothing_is_kept_for_another_list(self):
        answers(joined([load(0, "A"), load(1, "B"), tell(1, 0, 100, 16), record(1, [], [])]))
        self.assertEqual([1, -2, 1, -1, 1, -1, 1, 1, 1, 1, 2, 1, 31],
                         answers(joined([show(0), withdraw(1), drop(1), load(0, "A"), load(1, "B"), quick()])))

    def test_400_calls(self):
        calls = [load(0, "A\n B\n C\nD"), load(1, "E\nF\n G")] + [quick()] * 398
        answered = answers(joined(calls))
        self.assertEqual([1, 4, 1, 3] + ([13, 12] + [31] * 12) * 398, answered)


if __name__ == "__main__":
    unittest.main()
