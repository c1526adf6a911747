"""Promises 8 to 14 with random lists, against a second way of working them out and against all worlds there are."""

import random
import unittest

from asking import ask, built, conflict, exact, load, matrix, model, placed, record, tell, translate
from second_way import ByChoices, all_worlds, built_by_triples, sets_of
from trees import RELATIONS, Tree, random_sets, random_tree, relation_of


def random_told(rng, sets, most_choices=16):
    """Told relations by key, most of them true of the sets; keys in no order."""
    numbers = list(sets)
    told = {}
    choices = 1
    for key in rng.sample(range(1, 100), rng.randint(0, 6)):
        c, d = rng.choice(numbers), rng.choice(numbers)
        if c == d:
            continue
        mask = relation_of(sets[c], sets[d]) if rng.random() < 0.8 else rng.choice(RELATIONS)
        mask |= rng.choice([0, 0] + list(RELATIONS)) | rng.choice([0, 0] + list(RELATIONS))
        if choices * bin(mask).count("1") <= most_choices:
            choices *= bin(mask).count("1")
            told[key] = (c, d, mask)
    return told


def random_records(rng, sets, things):
    """Records by key, most of them true of the sets; keys in no order."""
    numbers = list(sets)
    records = {}
    for key in rng.sample(range(1, 100), rng.randint(0, 4)):
        thing = rng.randrange(things)
        first = [number for number in numbers if thing in sets[number] and rng.random() < 0.5]
        second = [number for number in numbers if thing not in sets[number] and rng.random() < 0.3]
        if rng.random() < 0.1:
            second.append(rng.choice(numbers))
        records[key] = (first, second)
    return records


def calls_of(trees, told, records):
    calls = [load(tree.side, tree.text()) for tree in trees if tree.parents]
    calls += [tell(key, *one) for key, one in told.items()]
    return calls + [record(key, *one) for key, one in records.items()]


class AgainstChoices(unittest.TestCase):
    def check(self, rng, trees, told, records):
        numbers = trees[0].numbers() + trees[1].numbers()
        pairs = [(rng.choice(numbers), rng.choice(numbers)) for one in range(3)]
        concept = rng.choice(numbers)
        keys = [rng.choice(list(records) + [1000])]
        second = ByChoices(trees, told, records)
        asked = [exact(*pair) for pair in pairs] + [model(), conflict(), translate(concept), placed(keys[0]), built()]
        wanted = [second.exact(*pair) for pair in pairs]
        wanted += [second.model(), second.conflict(), second.translate(concept), second.placed(keys[0])]
        wanted.append(built_by_triples(trees, list(told.values()), list(records.values()), rng))
        if len(trees[0].numbers()) * len(trees[1].numbers()) <= 9:
            asked.append(matrix())
            wanted.append(second.matrix())
        calls = calls_of(trees, told, records)
        self.assertEqual(wanted, ask(*calls, *asked)[len(calls):], (calls, asked))
        return wanted

    def test_random_lists(self):
        rng = random.Random(22)
        worlds = conflicts = 0
        for turn in range(120):
            trees = [random_tree(rng, 0, 5), random_tree(rng, 1, 5)]
            sets, things = random_sets(rng, trees)
            wanted = self.check(rng, trees, random_told(rng, sets), random_records(rng, sets, things))
            worlds += wanted[3] != [-2]
            conflicts += wanted[4] != [-2]
        self.assertGreater(worlds, 40)
        self.assertGreater(conflicts, 20)

    def test_one_list_alone(self):
        rng = random.Random(23)
        for turn in range(20):
            for trees in ([random_tree(rng, 0), Tree(1, [])], [Tree(0, []), random_tree(rng, 1)]):
                loaded = [tree for tree in trees if tree.parents]
                sets, things = random_sets(rng, loaded)
                self.check(rng, trees, random_told(rng, sets), random_records(rng, sets, things))

    def test_long_lists(self):
        rng = random.Random(24)
        for turn in range(10):
            trees = [random_tree(rng, 0), random_tree(rng, 1)]
            sets, things = random_sets(rng, trees)
            self.check(rng, trees, random_told(rng, sets, 4), random_records(rng, sets, things))

    def test_settled_tables(self):
        rng = random.Random(25)
        points = 0
        for turn in range(40):
            trees = [random_tree(rng, 0, 3), random_tree(rng, 1, 3)]
            sets, things = random_sets(rng, trees)
            told = {}
            for c in sets:
                for d in sets:
                    if c < d and len(told) < 20 and rng.random() < 0.95:
                        told[100 - len(told)] = (c, d, relation_of(sets[c], sets[d]))
            wanted = self.check(rng, trees, told, {})
            points += wanted[7] != [-1]
        self.assertGreater(points, 15)


class AgainstAllWorlds(unittest.TestCase):
    """Every set of things that lists allow is tried, so this doesn't lean on choices or greatest worlds."""

    def test_small_lists(self):
        rng = random.Random(26)
        with_world = 0
        for turn in range(60):
            trees = [random_tree(rng, 0, 3), random_tree(rng, 1, 2)]
            sets, things = random_sets(rng, trees)
            told, records = random_told(rng, sets), random_records(rng, sets, things)
            possible = {(c, d): 0 for c in sets for d in sets}
            for world in all_worlds(trees, list(told.values()), list(records.values())):
                found = sets_of(trees, world)
                for c, d in possible:
                    possible[(c, d)] |= relation_of(found[c], found[d])
            calls = calls_of(trees, told, records)
            answered = ask(*calls, *(exact(*pair) for pair in possible))[len(calls):]
            self.assertEqual([[mask] for mask in possible.values()], answered, (calls, list(possible)))
            with_world += any(possible.values())
        self.assertGreater(with_world, 25)


if __name__ == "__main__":
    unittest.main()
