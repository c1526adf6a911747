"""Lists, sets and relations made for the tests, without the package."""

from asking import APART, EQUAL, HOLDS, OVERLAP, WITHIN

RELATIONS = (EQUAL, WITHIN, HOLDS, OVERLAP, APART)


def relation_of(first, second):
    """The relation of two sets that aren't empty."""
    if first == second:
        return EQUAL
    if first < second:
        return WITHIN
    if first > second:
        return HOLDS
    return OVERLAP if first & second else APART


def turned(mask):
    return mask & (EQUAL | OVERLAP | APART) | (HOLDS if mask & WITHIN else 0) | (WITHIN if mask & HOLDS else 0)


class Tree:
    """A list for the tests, made by saying what each concept is a part of."""

    def __init__(self, side, parents, pluses=()):
        self.side = side
        self.parents = parents
        self.pluses = pluses

    def numbers(self):
        return [100 * self.side + place for place in range(len(self.parents))]

    def chain(self, number):
        found = []
        place = number % 100
        while place is not None:
            found.append(100 * self.side + place)
            place = self.parents[place]
        return found

    def parts(self, number):
        return [part for part in self.numbers() if self.chain(part)[1:2] == [number]]

    def text(self):
        return "\n".join(" " * (len(self.chain(number)) - 1) + "abcdefgh"[number % 100]
                         + (" +" if number % 100 in self.pluses else "") for number in self.numbers())


def random_tree(rng, side, most=8):
    parents = [None]
    path = [0]
    for place in range(1, rng.randint(1, most)):
        path = path[:rng.randint(0, len(path))]
        parents.append(path[-1] if path else None)
        path.append(place)
    with_parts = [place for place in range(len(parents)) if place in parents]
    return Tree(side, parents, [place for place in with_parts if rng.random() < 0.4])


def random_sets(rng, trees):
    """A set of things for each concept, as the chains ask for it (pluses don't matter), and how many things there are.
    """
    sets = {number: set() for tree in trees for number in tree.numbers()}
    things = 0
    while not all(sets.values()) or rng.random() < 0.8:
        for tree in trees:
            deepest = rng.choice(tree.numbers() + [None])
            for number in tree.chain(deepest) if deepest is not None else []:
                sets[number].add(things)
        things += 1
    return sets, things
