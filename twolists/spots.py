"""The spots where a thing can lie; a set of spots is a whole number with one bit for each spot in it."""

IN_NONE = -1


class Ground:
    """All spots in their order, the set of them all, and each concept's set of spots by the concept's number."""

    def __init__(self, checklist, other_checklist):
        self.pairs = spot_pairs(checklist.deepest, other_checklist.deepest)
        self.whole = (1 << len(self.pairs)) - 1
        chains = dict(checklist.chains)
        chains.update(other_checklist.chains)
        self.extents = extents_of(self.pairs, chains)

    def recorded_spots(self, first, second):
        """The spots that are in all the first concepts and in none of the second ones."""
        spots = self.whole
        for number in first:
            spots = spots & self.extents[number]
        for number in second:
            spots = without_spots(spots, self.extents[number])
        return spots

    def pairs_of(self, spots):
        """The pairs of a set of spots, in the order of spots."""
        return [pair for place, pair in enumerate(self.pairs) if spots >> place & 1]


def without_spots(spots, others):
    return spots ^ (spots & others)


def spot_pairs(deepest, other_deepest):
    """Each spot as a pair: the concept of side 0 where it lies deepest, or -1, and that of side 1, or -1."""
    pairs = []
    for c in [IN_NONE] + deepest:
        for d in [IN_NONE] + other_deepest:
            pairs.append((c, d))
    return pairs


def numbers_above(pair, chains):
    """The concepts that a spot is in."""
    numbers = []
    for deepest in pair:
        if deepest != IN_NONE:
            numbers.extend(chains[deepest])
    return numbers


def extents_of(pairs, chains):
    extents = {}
    for number in chains:
        extents[number] = 0
    for place, pair in enumerate(pairs):
        for number in numbers_above(pair, chains):
            extents[number] = extents[number] | (1 << place)
    return extents
