"""A second way of working out what the package works out: slower, and nearer to the document's words."""

import itertools

from asking import APART, EQUAL, HOLDS, OVERLAP, WITHIN
from trees import RELATIONS, relation_of, turned


def compositions_by_sets():
    """What may hold of a first and a third set, from all ways that three sets can lie."""
    found = {}
    regions = range(1, 8)
    for bits in range(1, 128):
        filled = [region for region in regions if bits >> (region - 1) & 1]
        sets = [{region for region in filled if region >> place & 1} for place in range(3)]
        if all(sets):
            pair = (relation_of(sets[0], sets[1]), relation_of(sets[1], sets[2]))
            found[pair] = found.get(pair, 0) | relation_of(sets[0], sets[2])
    return found


COMPOSITIONS = compositions_by_sets()


def compose_masks(first, second):
    found = 0
    for r, s in itertools.product(RELATIONS, RELATIONS):
        if first & r and second & s:
            found |= COMPOSITIONS[(r, s)]
    return found


def quick_by_triples(trees, told, records, rng):
    """The quick table by pairs, made narrower triple by triple in an order of its own."""
    chains = {number: tree.chain(number) for tree in trees for number in tree.numbers()}
    table = {}
    for c, d in itertools.product(chains, chains):
        if c // 100 != d // 100:
            allowed = set(RELATIONS)
        elif c == d:
            allowed = {EQUAL}
        elif d in chains[c]:
            allowed = {EQUAL, WITHIN}
        elif c in chains[d]:
            allowed = {EQUAL, HOLDS}
        else:
            allowed = {APART}
        for first, second, mask in told:
            if (first, second) == (c, d):
                allowed = {r for r in allowed if r & mask}
            if (first, second) == (d, c):
                allowed = {r for r in allowed if turned(r) & mask}
        for first, second in records:
            if c in first and d in first:
                allowed = allowed - {APART}
            if c in first and d in second:
                allowed = allowed - {EQUAL, WITHIN}
            if c in second and d in first:
                allowed = allowed - {EQUAL, HOLDS}
        table[(c, d)] = sum(allowed)
    triples = list(itertools.product(chains, chains, chains))
    rng.shuffle(triples)
    known = {}
    before = None
    while before != table:
        before = dict(table)
        for c, d, e in triples:
            pair = (table[(c, e)], table[(e, d)])
            if pair not in known:
                known[pair] = compose_masks(*pair)
            table[(c, d)] &= known[pair]
    return table


def is_let_be(inside, told, choice):
    """Whether a thing that is in these concepts is let be by a choice, a relation for each told one."""
    for (c, d, mask), relation in zip(told, choice, strict=True):
        if c in inside and d in inside and relation not in (EQUAL, WITHIN, HOLDS, OVERLAP):
            return False
        if c in inside and d not in inside and relation not in (HOLDS, OVERLAP, APART):
            return False
        if d in inside and c not in inside and relation not in (WITHIN, OVERLAP, APART):
            return False
    return True


def sets_of(trees, things):
    """Each concept's set of things, where things are told by the concepts that they are in."""
    return {number: {place for place, inside in enumerate(things) if number in inside}
            for tree in trees for number in tree.numbers()}


def is_world(trees, things, told, records):
    """The six things that make a world, one by one."""
    sets = sets_of(trees, things)
    if not all(sets.values()):
        return False
    for tree in trees:
        for c in tree.numbers():
            if not all(sets[c] <= sets[d] for d in tree.chain(c)):
                return False
            for d in tree.numbers():
                if d not in tree.chain(c) and c not in tree.chain(d) and sets[c] & sets[d]:
                    return False
            if c % 100 in tree.pluses and sets[c] != set().union(*(sets[part] for part in tree.parts(c))):
                return False
    if not all(relation_of(sets[c], sets[d]) & mask for c, d, mask in told):
        return False
    return all(any(inside.issuperset(first) and inside.isdisjoint(second) for inside in things)
               for first, second in records)


class ByChoices:
    """Answers by going through all choices, each with its greatest world; told relations and records by key."""

    def __init__(self, trees, told, records):
        self.trees = trees
        self.told = told
        self.records = records

    def spots(self):
        sides = [[-1] + [number for number in tree.numbers() if number % 100 not in tree.pluses]
                 for tree in self.trees]
        return list(itertools.product(*sides))

    def inside(self, spot):
        return {number for tree, deepest in zip(self.trees, spot) if deepest != -1 for number in tree.chain(deepest)}

    def standing(self, told, records):
        """The spots of each choice that stands; told are dicts by key, as records are."""
        told = [told[key] for key in sorted(told)]
        found = []
        for choice in itertools.product(*([r for r in RELATIONS if r & mask] for c, d, mask in told)):
            spots = [spot for spot in self.spots() if is_let_be(self.inside(spot), told, choice)]
            chosen = [(c, d, relation) for (c, d, mask), relation in zip(told, choice)]
            if is_world(self.trees, [self.inside(spot) for spot in spots], chosen, records.values()):
                found.append(spots)
        return found

    def too_many(self):
        choices = 1
        for c, d, mask in self.told.values():
            choices *= bin(mask).count("1")
        return choices > 16

    def exact(self, c, d):
        if self.too_many():
            return [-3]
        if c == d:
            return [1 if self.standing(self.told, self.records) else 0]
        return [sum(relation for relation in RELATIONS
                    if self.standing({**self.told, 10 ** 10: (c, d, relation)}, self.records))]

    def matrix(self):
        if self.too_many():
            return [-1]
        masks = [self.exact(c, d)[0] for c in self.trees[0].numbers() for d in self.trees[1].numbers()]
        return [len(masks)] + masks

    def model(self):
        if self.too_many():
            return [-1]
        worlds = self.standing(self.told, self.records)
        if not worlds:
            return [-2]
        return [len(worlds[0])] + [number for spot in worlds[0] for number in spot]

    def conflict(self):
        if self.too_many():
            return [-1]
        if self.standing(self.told, self.records):
            return [-2]
        told, records = dict(self.told), dict(self.records)
        for key in sorted(told):
            if not self.standing({k: told[k] for k in told if k != key}, records):
                told.pop(key)
        for key in sorted(records):
            if not self.standing(told, {k: records[k] for k in records if k != key}):
                records.pop(key)
        return [len(told)] + sorted(told) + [len(records)] + sorted(records)

    def translate(self, c):
        if self.too_many():
            return [-2]
        if not self.standing(self.told, self.records):
            return [-3]
        other = self.trees[1 - c // 100]
        told = [{APART: 0, EQUAL: 2, WITHIN: 2, EQUAL + WITHIN: 2}.get(self.exact(c, d)[0], 1)
                for d in other.numbers()]
        lengths = {len(other.chain(d)): d for d, number in zip(other.numbers(), told) if number == 2}
        return [1 + len(told), lengths[max(lengths)] if lengths else -1] + told

    def placed(self, key):
        if key not in self.records:
            return [-1]
        if self.too_many():
            return [-2]
        worlds = self.standing(self.told, self.records)
        if not worlds:
            return [-3]
        first, second = self.records[key]
        places = [self.inside(spot) for spots in worlds for spot in spots]
        places = [inside for inside in places if inside.issuperset(first) and inside.isdisjoint(second)]
        numbers = self.trees[0].numbers() + self.trees[1].numbers()
        told = [2 if all(number in inside for inside in places) else int(any(number in inside for inside in places))
                for number in numbers]
        return [len(told)] + told


def built_by_triples(trees, told, records, rng):
    table = quick_by_triples(trees, told, records, rng)
    if not all(mask in RELATIONS for mask in table.values()):
        return [-1]
    numbers = trees[0].numbers() + trees[1].numbers()
    above = {c: {d for d in numbers if table[(c, d)] in (EQUAL, WITHIN)} for c in numbers}
    points = [above[c] for c in numbers]
    points += [above[c] | above[d] for c, d in itertools.combinations(numbers, 2) if table[(c, d)] == OVERLAP]
    answer = [len(points)]
    for point in points:
        answer += [len(point)] + sorted(point)
    return answer


def all_worlds(trees, told, records):
    """Each world as what things there are: each told by the concepts that it is in, no two alike."""
    numbers = trees[0].numbers() + trees[1].numbers()
    kinds = [set(inside) for size in range(len(numbers) + 1) for inside in itertools.combinations(numbers, size)]
    # What no thing may be in, whatever else there is, is left out first, as there are too many sets of sets else.
    kinds = [inside for inside in kinds if may_be(trees, inside)]
    for size in range(len(kinds) + 1):
        for things in itertools.combinations(kinds, size):
            if is_world(trees, things, told, records):
                yield things


def may_be(trees, inside):
    """Whether a thing can be in just these concepts, as far as the lists tell."""
    for tree in trees:
        own = [number for number in tree.numbers() if number in inside]
        if any(d not in inside for c in own for d in tree.chain(c)):
            return False
        if any(d not in tree.chain(c) and c not in tree.chain(d) for c in own for d in own):
            return False
        if any(c % 100 in tree.pluses and not inside.intersection(tree.parts(c)) for c in own):
            return False
    return True
