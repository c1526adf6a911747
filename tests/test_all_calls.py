"""All fourteen calls together: how their answers stand in one list, and that what only asks changes nothing."""

import random
import unittest

from twolists.desk import answers

from asking import APART, EQUAL, HOLDS, OVERLAP, WITHIN
from asking import ask, built, conflict, drop, exact, load, matrix, model, placed, quick, record, show, tell, translate
from asking import withdraw

ASKING = [exact(0, 100), exact(101, 1), exact(1, 1), exact(0, 9), matrix(), model(), conflict(), translate(0),
          translate(101), translate(9), placed(1), placed(2), built(), quick(), show(0), show(1)]


def joined(calls):
    return [number for call in calls for number in call]


def changing_calls():
    """Calls that change what is kept, refused ones too, over lists, told relations and records."""
    yield record(1, [], [])
    yield load(1, "X\n Y\nZ")
    yield load(0, "A +")
    yield load(0, "A\n B +\n  C")
    yield tell(5, 0, 101, WITHIN + OVERLAP)
    yield tell(2, 100, 1, EQUAL + HOLDS + APART)
    yield tell(2, 0, 100, EQUAL)
    yield record(2, [1, 100], [102])
    yield record(3, [2], [9])
    yield tell(1, 2, 102, APART)
    yield record(7, [2], [100, 101])
    yield tell(3, 2, 102, EQUAL + OVERLAP)
    yield withdraw(1)
    yield withdraw(1)
    yield tell(8, 0, 1, 31)
    yield drop(7)
    yield withdraw(8)
    yield drop(2)
    yield drop(2)
    yield tell(9, 0, 102, HOLDS)
    yield tell(10, 0, 100, EQUAL)


class OneList(unittest.TestCase):
    def test_how_answers_stand(self):
        calls = joined([load(0, "A\n B"), load(1, "X"), tell(4, 1, 100, EQUAL), record(6, [0], [1]), quick(),
                        exact(0, 100), matrix(), model(), conflict(), translate(0), translate(1), placed(6), built(),
                        tell(3, 0, 100, EQUAL), conflict(), model(), built(), drop(6), withdraw(3), show(1)])
        self.assertEqual([1, 2, 1, 1, 1, 0, 1, 0,
                          3, 2, 4, 1,
                          1, 4,
                          3, 2, 4, 1,
                          7, 3, -1, -1, 0, -1, 1, 100,
                          1, -2,
                          3, 2, -1, 1,
                          3, 2, 100, 2,
                          4, 3, 2, 0, 0,
                          11, 3, 1, 0, 3, 0, 1, 100, 3, 0, 1, 100,
                          1, 0,
                          5, 2, 3, 4, 1, 6,
                          1, -2,
                          1, -1,
                          1, 0, 1, 0,
                          2, 0, 88], answers(calls))

    def test_handed_in_twice(self):
        calls = joined([call for change in changing_calls() for call in [change] + ASKING])
        before = list(calls)
        first = answers(calls)
        kept = list(first)
        self.assertEqual(before, calls)
        self.assertEqual(first, answers(calls))
        answers(joined([load(0, "A"), load(1, "A"), tell(1, 0, 100, 2), record(1, [100], [0])] + ASKING))
        first.clear()
        self.assertEqual(kept, answers(calls))
        self.assertEqual(before, calls)

    def test_all_calls_are_in_it(self):
        calls = [call for change in changing_calls() for call in [change] + ASKING]
        self.assertEqual(set(range(14)), {call[0] for call in calls})
        answered = ask(*calls)
        for place in range(14):
            own = [answer for call, answer in zip(calls, answered) if call[0] == place]
            self.assertTrue(any(answer[0] >= 0 for answer in own), place)
            if place != 6:
                self.assertTrue(any(answer[0] < 0 for answer in own), place)

    def test_400_calls(self):
        rng = random.Random(27)
        eight = "A\n B\n  C\n D\nE\n F\nG\nH"
        calls = [load(0, eight), load(1, "\n".join("ABCDEFGH"))]
        calls += [tell(key, key % 8, 100 + key * 3 % 8, OVERLAP) for key in range(1, 17)]
        calls += [tell(key, key % 8, 101 + key % 7, OVERLAP + APART) for key in range(17, 21)]
        calls += [record(key, [key % 8], [100 + key % 7]) for key in range(1, 11)]
        calls += [rng.choice([matrix(), conflict(), model(), built(), exact(rng.randrange(8), 103), quick(),
                              translate(100 + rng.randrange(8)), placed(rng.randint(1, 10))])
                  for place in range(400 - len(calls))]
        answered = ask(*calls)
        self.assertEqual(400, len(answered))
        self.assertTrue(all(answer[0] == 0 for answer in answered[2:32]))
        found = {}
        for call, answer in zip(calls[32:], answered[32:]):
            self.assertEqual(found.setdefault(tuple(call), answer), answer)


class NothingIsChanged(unittest.TestCase):
    def test_same_call_twice(self):
        changes = list(changing_calls())
        for end in range(1, len(changes) + 1):
            answered = ask(*changes[:end], *(again for call in ASKING for again in (call, call)))[end:]
            self.assertEqual(answered[0::2], answered[1::2], end)
            self.assertEqual(ask(*changes[:end], *ASKING)[end:], answered[0::2], end)

    def test_what_follows_answers_as_if_not_asked(self):
        changes = list(changing_calls())
        alone = ask(*changes, *ASKING)
        among = ask(*(call for change in changes for call in [change] + ASKING))
        step = 1 + len(ASKING)
        self.assertEqual(alone[:len(changes)], among[0::step])
        self.assertEqual(alone[len(changes):], among[-len(ASKING):])
        for end in range(len(changes)):
            plain = ask(*changes[:end + 1], *ASKING)
            self.assertEqual(plain[end + 1:], among[end * step + 1:(end + 1) * step], end)

    def test_refused_calls_change_nothing(self):
        refused = [load(0, "X"), load(2, "X"), tell(5, 0, 101, 1), tell(6, 0, 100, 0), record(1, [0], [0]),
                   record(30, [9], []), withdraw(77), drop(77), exact(9, 9), translate(9), placed(77)]
        changes = list(changing_calls())[:8]
        among = ask(*changes, *refused, *ASKING)
        self.assertTrue(all(len(answer) == 1 and answer[0] < 0 for answer in among[8:8 + len(refused)]))
        self.assertEqual(ask(*changes, *ASKING)[8:], among[8 + len(refused):])


if __name__ == "__main__":
    unittest.main()
