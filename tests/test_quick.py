"""Promise 7: quick. Some tables by hand, many against a second way of working them out, and against real sets."""

import itertools
import random
import unittest

from twolists.table import quick_table

from asking import APART, EQUAL, HOLDS, OVERLAP, WITHIN, ask, drop, last, load, quick, record, tell, withdraw
from second_way import COMPOSITIONS, quick_by_triples
from trees import RELATIONS, random_sets, random_tree, relation_of


class OneConceptEach(unittest.TestCase):
    def mask(self, *calls):
        answer = last(load(0, "A"), load(1, "X"), *calls, quick())
        self.assertEqual(1, answer[0])
        self.assertEqual(2, len(answer))
        return answer[1]

    def test_nothing_told(self):
        self.assertEqual(31, self.mask())

    def test_told(self):
        for mask in range(1, 32):
            self.assertEqual(mask, self.mask(tell(1, 0, 100, mask)))

    def test_told_the_other_way(self):
        for mask, wanted in ((1, 1), (2, 4), (4, 2), (8, 8), (16, 16), (3, 5), (5, 3), (6, 6), (26, 28), (31, 31)):
            self.assertEqual(wanted, self.mask(tell(1, 100, 0, mask)))

    def test_told_twice(self):
        self.assertEqual(3, self.mask(tell(1, 0, 100, 7), tell(2, 0, 100, 19)))
        self.assertEqual(2, self.mask(tell(1, 0, 100, 2 + 4 + 8), tell(2, 100, 0, 4 + 16)))
        self.assertEqual(0, self.mask(tell(1, 0, 100, 2), tell(2, 100, 0, 2)))
        self.assertEqual(0, self.mask(tell(1, 0, 100, 1), tell(2, 0, 100, 30)))

    def test_records(self):
        self.assertEqual(15, self.mask(record(1, [0, 100], [])))
        self.assertEqual(15, self.mask(record(1, [100, 0], [])))
        self.assertEqual(28, self.mask(record(1, [0], [100])))
        self.assertEqual(26, self.mask(record(1, [100], [0])))
        self.assertEqual(8, self.mask(record(1, [0, 100], []), record(2, [0], [100]), record(3, [100], [0])))

    def test_records_that_take_nothing_away(self):
        for first, second in (([], []), ([0], []), ([100, 100], []), ([], [0]), ([], [0, 100])):
            self.assertEqual(31, self.mask(record(1, first, second)))

    def test_record_with_one_concept_in_both_lists(self):
        self.assertEqual(0, self.mask(record(1, [0], [0])))
        self.assertEqual(0, self.mask(record(1, [100], [0, 100])))

    def test_told_and_recorded(self):
        self.assertEqual(12, self.mask(tell(1, 0, 100, 15), record(1, [0], [100])))
        self.assertEqual(0, self.mask(tell(1, 0, 100, 3), record(1, [0], [100])))

    def test_after_withdraw_and_drop(self):
        self.assertEqual(28, self.mask(tell(1, 0, 100, 3), record(1, [0], [100]), withdraw(1)))
        self.assertEqual(3, self.mask(tell(1, 0, 100, 3), record(1, [0], [100]), drop(1)))
        self.assertEqual(31, self.mask(tell(1, 0, 100, 3), record(1, [0], [100]), drop(1), withdraw(1)))


class Lists(unittest.TestCase):
    def test_side_without_list(self):
        self.assertEqual([[0]], ask(quick()))
        self.assertEqual([[2], [0]], ask(load(0, "A\n B"), quick()))
        self.assertEqual([[2], [0]], ask(load(1, "A\n B"), quick()))
        self.assertEqual([0], last(load(0, "A\n B"), tell(1, 0, 1, 16), record(1, [0], [0]), quick()))
        self.assertEqual([0], last(load(1, "A +"), load(0, "A\n B"), quick()))

    def test_lists_alone(self):
        self.assertEqual([6] + [31] * 6, last(load(0, "A\n B\nC"), load(1, "X +\n Y"), quick()))
        deep = "A\n B\n  C\n   D\n    E\n     F\n      G\n       H"
        wide = "A\nB\nC\nD\nE\nF\nG\nH"
        self.assertEqual([64] + [31] * 64, last(load(0, deep), load(1, wide), quick()))

    def test_order_of_masks(self):
        told = [tell(1, 0, 100, 24), tell(2, 0, 101, 26), tell(3, 0, 102, 28), tell(4, 1, 100, 29),
                tell(5, 1, 101, 30), tell(6, 1, 102, 27)]
        for loads in ([load(0, "A\nB"), load(1, "X\nY\nZ")], [load(1, "X\nY\nZ"), load(0, "A\nB")]):
            answer = last(*loads, *told, quick())
            self.assertEqual([6, 24, 26, 28, 29, 30, 27], answer)


class Narrowing(unittest.TestCase):
    def check(self, text, other_text, calls, masks):
        self.assertEqual([len(masks)] + masks, last(load(0, text), load(1, other_text), *calls, quick()))

    def test_parts_of_equals(self):
        self.check("A\n B", "X\n Y", [tell(1, 0, 101, 1)], [3, 1, 3, 3])

    def test_told_of_one_list(self):
        self.check("A\n B", "X", [tell(1, 1, 100, 16)], [28, 16])
        self.check("A\n B", "X", [tell(1, 1, 100, 16), tell(2, 0, 1, 1)], [16, 16])
        self.check("A\n B", "X", [tell(1, 1, 100, 16), tell(2, 1, 0, 1)], [16, 16])
        self.check("A\n B", "X", [tell(1, 1, 100, 1)], [5, 1])
        self.check("A\n B", "X", [tell(1, 1, 100, 1), tell(2, 0, 1, 4)], [4, 1])
        self.check("A\n B", "X", [tell(1, 1, 100, 1), tell(2, 1, 0, 2)], [4, 1])
        self.check("X", "A\n B", [tell(1, 101, 0, 1), tell(2, 101, 100, 2)], [2, 1])

    def test_apart_in_one_list_apart_in_both(self):
        self.check("A\nB", "X", [tell(1, 0, 100, 4)], [4, 16])
        self.check("A\nB", "X", [tell(1, 0, 100, 1)], [1, 16])
        self.check("A\nB", "X", [tell(1, 0, 100, 2)], [2, 26])

    def test_several_parts(self):
        # Two parts that are apart: neither is the whole.
        self.check("A\n B\n C", "X", [tell(1, 1, 100, 1)], [4, 1, 16])
        self.check("A\n B\n C", "X", [tell(1, 0, 100, 1)], [1, 2, 2])

    def test_plus_does_not_matter(self):
        told = [tell(1, 1, 100, 16), tell(2, 2, 100, 16)]
        self.check("A +\n B\n C", "X", told, [28, 16, 16])
        self.check("A\n B\n C", "X", told, [28, 16, 16])
        self.check("A +\n B", "X", [tell(1, 1, 100, 16)], [28, 16])

    def test_over_several_steps(self):
        equal = tell(1, 0, 102, 1)
        more = record(1, [100], [101])
        self.check("A\n B\n  C", "X\n Y\n  Z", [equal], [3, 3, 1, 3, 3, 3, 3, 3, 3])
        self.check("A\n B\n  C", "X\n Y\n  Z", [equal, more], [2, 3, 1, 2, 3, 3, 2, 3, 3])

    def test_within_what_is_apart(self):
        # A within X, X within C: so A within C, but the list says that they are apart.
        calls = [tell(1, 0, 100, 2), tell(2, 100, 1, 2), tell(3, 1, 101, 2)]
        self.check("A\nC", "X\nY", calls, [0, 0, 0, 0])

    def test_chain_through_both_lists(self):
        calls = [tell(1, 2, 101, 2), tell(2, 101, 1, 2)]
        self.check("A\n B\n  C", "X\n Y", calls, [15, 4, 15, 4, 2, 2])

    def test_records_of_one_list(self):
        self.check("A\n B", "X", [record(1, [0], [1]), tell(1, 1, 100, 1)], [4, 1])
        self.check("A\n B", "X", [record(1, [0, 1], []), tell(1, 1, 100, 1)], [5, 1])
        self.check("A\n B", "X", [record(1, [1], [0])], [0, 0])
        self.check("A\n B\n C", "X", [record(1, [1, 2], [])], [0, 0, 0])

    def test_record_over_both_lists(self):
        # In B and X, not in Y: B meets X and isn't within Y; X is more than Y.
        self.check("A\n B", "X\n Y", [record(1, [1, 100], [101])], [15, 28, 15, 28])

    def test_record_with_more_first_and_second_concepts(self):
        self.check("A\nB", "X\nY", [record(1, [0, 100], [1, 101])], [15, 28, 26, 31])

    def test_all_masks_become_0(self):
        zeros = [0] * 9
        self.check("A\nB\nC", "X\nY\nZ", [tell(1, 0, 1, 1)], zeros)
        self.check("A\nB\nC", "X\nY\nZ", [tell(1, 101, 102, 15)], zeros)
        self.check("A\nB\nC", "X\nY\nZ", [tell(1, 0, 100, 1), tell(2, 1, 100, 1)], zeros)
        self.check("A\nB\nC", "X\nY\nZ", [record(1, [102], [102])], zeros)
        self.check("A\n B", "X", [tell(1, 0, 1, 8)], [0, 0])

    def test_again_after_withdraw_and_drop(self):
        answered = ask(load(0, "A\n B"), load(1, "X\n Y"), tell(1, 0, 101, 1), quick(), tell(2, 1, 100, 16), quick(),
                       withdraw(2), quick(), record(1, [101], [0]), quick(), drop(1), quick(), withdraw(1), quick())
        tables = [answered[place] for place in (3, 5, 7, 9, 11, 13)]
        known = [4, 3, 1, 3, 3]
        zeros = [4, 0, 0, 0, 0]
        self.assertEqual([known, zeros, known, zeros, known, [4, 31, 31, 31, 31]], tables)

    def test_withdrawing_one_of_two_alike(self):
        told = [tell(1, 0, 100, 3), tell(2, 0, 100, 3)]
        self.check("A", "X", told + [withdraw(1)], [3])
        self.check("A", "X", told + [withdraw(2)], [3])
        self.check("A", "X", told + [withdraw(1), withdraw(2)], [31])


class WholeTable(unittest.TestCase):
    """The masks that quick doesn't answer: of a concept with itself, of one list, and of side 1 with side 0."""

    CHAINS = ({0: [0], 1: [1, 0], 2: [2]}, {100: [100]})

    def test_nothing_told(self):
        self.assertEqual({0: {0: 1, 1: 5, 2: 16, 100: 31}, 1: {0: 3, 1: 1, 2: 16, 100: 31},
                          2: {0: 16, 1: 16, 2: 1, 100: 31}, 100: {0: 31, 1: 31, 2: 31, 100: 1}},
                         quick_table(*self.CHAINS, [], []))

    def test_told(self):
        table = quick_table(*self.CHAINS, [(0, 100, WITHIN)], [])
        self.assertEqual({0: HOLDS, 1: HOLDS, 2: 28, 100: EQUAL}, table[100])

    def test_all_masks_become_0(self):
        table = quick_table(*self.CHAINS, [], [([2], [2])])
        self.assertEqual({0}, {mask for row in table.values() for mask in row.values()})


class EachComposition(unittest.TestCase):
    """Two concepts of one list lie to one another in a set way; a third one is of the other list."""

    # The relation of two concepts of a list, the list's text, the two concepts' lines.
    FORMS = ((EQUAL, "A\n B", 0, 1), (WITHIN, "A\n B", 1, 0), (HOLDS, "A\n B", 0, 1), (APART, "A\nB", 0, 1))

    # By rows and columns within, holds, overlap, apart.
    TABLE = {WITHIN: (2, 31, 26, 16), HOLDS: (15, 4, 12, 28), OVERLAP: (10, 28, 31, 28), APART: (26, 16, 26, 31)}

    def wanted(self, r, s):
        if r == EQUAL or s == EQUAL:
            return r * s
        return self.TABLE[r][(WITHIN, HOLDS, OVERLAP, APART).index(s)]

    def test_the_second_way_has_the_same_compositions(self):
        for r, s in itertools.product(RELATIONS, RELATIONS):
            self.assertEqual(self.wanted(r, s), COMPOSITIONS[(r, s)])

    def test_first_relation_in_a_list(self):
        for (r, text, c, e), s in itertools.product(self.FORMS, RELATIONS):
            answer = last(load(0, text), load(1, "X"), tell(1, c, e, r), tell(2, e, 100, s), quick())
            self.assertEqual((self.wanted(r, s), s), (answer[1 + c], answer[1 + e]), (r, s))

    def test_second_relation_in_a_list(self):
        for r, (s, text, e, d) in itertools.product(RELATIONS, self.FORMS):
            answer = last(load(0, "A"), load(1, text), tell(1, 100 + e, 100 + d, s), tell(2, 0, 100 + e, r), quick())
            self.assertEqual((self.wanted(r, s), r), (answer[1 + d], answer[1 + e]), (r, s))

    def test_overlap_with_overlap(self):
        for r, text, c, d in self.FORMS:
            self.assertEqual([2, 8, 8], last(load(0, text), load(1, "X"), tell(1, c, d, r), tell(2, c, 100, 8),
                                             tell(3, 100, d, 8), quick()))


class AgainstASecondWay(unittest.TestCase):
    def random_calls(self, rng, trees):
        numbers = trees[0].numbers() + trees[1].numbers()
        told = []
        for place in range(rng.randint(0, 8)):
            c, d = rng.choice(numbers), rng.choice(numbers)
            if c != d and (c // 100 != d // 100 or rng.random() < 0.2):
                told.append((c, d, rng.choice((rng.randint(1, 31), rng.choice(RELATIONS), 31 - rng.choice(RELATIONS)))))
        records = []
        for place in range(rng.choice((0, 0, 1, 2, 3))):
            records.append(([rng.choice(numbers) for one in range(rng.randint(0, 3))],
                            [rng.choice(numbers) for one in range(rng.randint(0, 3))]))
        return told, records

    def test_random_lists(self):
        rng = random.Random(20)
        narrowed = 0
        for turn in range(250):
            trees = [random_tree(rng, 0), random_tree(rng, 1)]
            told, records = self.random_calls(rng, trees)
            calls = [load(0, trees[0].text()), load(1, trees[1].text())]
            calls += [tell(key, *one) for key, one in enumerate(told, 1)]
            calls += [record(key, *one) for key, one in enumerate(records, 1)]
            answer = last(*calls, quick())
            table = quick_by_triples(trees, told, records, rng)
            masks = [table[(c, d)] for c in trees[0].numbers() for d in trees[1].numbers()]
            self.assertEqual([len(masks)] + masks, answer, (calls, told, records))
            narrowed += any(0 < mask < 31 for mask in answer[1:])
        self.assertGreater(narrowed, 80)


class AgainstRealSets(unittest.TestCase):
    def test_what_holds_is_never_taken_away(self):
        rng = random.Random(21)
        for turn in range(200):
            trees = [random_tree(rng, 0), random_tree(rng, 1)]
            sets, things = random_sets(rng, trees)
            numbers = list(sets)
            calls = [load(side, trees[side].text()) for side in (0, 1)]
            for key in range(1, rng.randint(1, 20)):
                c, d = rng.choice(numbers), rng.choice(numbers)
                if c != d:
                    calls.append(tell(key, c, d, relation_of(sets[c], sets[d]) | rng.choice((0, rng.randint(0, 31)))))
            for key in range(1, rng.randint(1, 10)):
                thing = rng.randrange(things)
                first = [number for number in numbers if thing in sets[number] and rng.random() < 0.5]
                second = [number for number in numbers if thing not in sets[number] and rng.random() < 0.5]
                calls.append(record(key, first[:16], second[:16]))
            answer = last(*calls, quick())
            pairs = itertools.product(trees[0].numbers(), trees[1].numbers())
            for (c, d), mask in zip(pairs, answer[1:], strict=True):
                self.assertTrue(mask & relation_of(sets[c], sets[d]), (calls, c, d))


if __name__ == "__main__":
    unittest.main()
