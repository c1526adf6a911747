"""The choices among what was told, and the greatest worlds of those that stand."""

from twolists.relations import RELATIONS
from twolists.relations import relations_in
from twolists.spots import without_spots

# By relation: whether something is in both sets, in the first alone, in the second alone. Of two sets that aren't
# empty just one row fits, so a relation holds where its regions with True have a thing and the others have none.
FILLED = {
    1: (True, False, False),
    2: (True, False, True),
    4: (True, True, False),
    8: (True, True, True),
    16: (False, True, True),
}


class World:
    """The greatest world of a choice: its spots, and sets of spots in each of which some thing has to be."""

    def __init__(self, spots, needs):
        self.spots = spots
        self.needs = needs


class Demand:
    """What a relation of two sets of spots asks: where no thing may be, and the sets in each of which one has to be."""

    def __init__(self, first, second, relation):
        both = first & second
        self.barred = 0
        self.needed = []
        for region, filled in zip((both, first ^ both, second ^ both), FILLED[relation]):
            if filled:
                self.needed.append(region)
            else:
                self.barred = self.barred | region


def meets_all(spots, needs):
    for need in needs:
        if (spots & need) == 0:
            return False
    return True


def count_choices(told):
    """How many choices there are for told relations, each (c, d, mask)."""
    product = 1
    for c, d, mask in told:
        product = product * len(relations_in(mask))
    return product


def narrow_world(world, demand):
    """The world with one more relation chosen, told by what it asks; None where that doesn't stand."""
    spots = without_spots(world.spots, demand.barred)
    if not meets_all(spots, demand.needed):
        return None
    # Where nothing is taken away, what the world needs is there as before.
    if spots != world.spots and not meets_all(spots, world.needs):
        return None
    return World(spots, world.needs + demand.needed)


def first_worlds(ground, records):
    """The greatest world where nothing is told, alone in a list; none where the records can't be."""
    needs = list(ground.extents.values())
    for first, second in records:
        needs.append(ground.recorded_spots(first, second))
    if not meets_all(ground.whole, needs):
        return []
    return [World(ground.whole, needs)]


def narrow_worlds(worlds, demands):
    """Each world with each of the demands, in this order, as far as they stand."""
    found = []
    for world in worlds:
        for demand in demands:
            narrowed = narrow_world(world, demand)
            if narrowed is not None:
                found.append(narrowed)
    return found


def standing_worlds(ground, told, records):
    """The greatest worlds of the choices that stand, in the order of choices; told relations by keys ascending."""
    worlds = first_worlds(ground, records)
    for c, d, mask in told:
        demands = [Demand(ground.extents[c], ground.extents[d], relation) for relation in relations_in(mask)]
        # What doesn't stand yet won't stand with more chosen: spots only go, needs only come.
        worlds = narrow_worlds(worlds, demands)
    return worlds


def all_spots(worlds):
    """The spots that are in one of the worlds or in several."""
    spots = 0
    for world in worlds:
        spots = spots | world.spots
    return spots


def is_possible(worlds, demand):
    for world in worlds:
        if narrow_world(world, demand) is not None:
            return True
    return False


def possible_mask(worlds, first, second):
    """The relations that may hold of two concepts, told by their sets of spots, over all worlds that stand."""
    return sum([relation for relation in RELATIONS if is_possible(worlds, Demand(first, second, relation))])


def entries_that_stay(entries, is_conflict):
    """Goes through a dict of entries in its order and leaves out each one without which the rest is a conflict."""
    left = dict(entries)
    for key in entries:
        fewer = dict(left)
        fewer.pop(key)
        if is_conflict(fewer):
            left = fewer
    return left


def told_that_stay(ground, told, records):
    """Where there is no world: the told relations that stay, of a dict by keys ascending, beside all the records."""
    return entries_that_stay(told, lambda some: standing_worlds(ground, list(some.values()), records) == [])


def records_that_stay(ground, told, records):
    """The records that stay, of a dict by keys ascending, beside the told relations that stayed."""
    return entries_that_stay(records, lambda some: standing_worlds(ground, told, list(some.values())) == [])
