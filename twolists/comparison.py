"""The object that the calls are made on: two lists, what was told of them, and records."""

from twolists.checklist import Checklist
from twolists.checklist import leading_rows
from twolists.checklist import split_lines
from twolists.checklist import text_refusal
from twolists.ledger import Ledger
from twolists.ledger import is_key
from twolists.points import is_settled
from twolists.points import points_of
from twolists.relations import ALL
from twolists.spots import Ground
from twolists.table import quick_table
from twolists.verdicts import narrowest_sure
from twolists.verdicts import verdict_of_mask
from twolists.verdicts import verdict_of_spots
from twolists.worlds import all_spots
from twolists.worlds import count_choices
from twolists.worlds import possible_mask
from twolists.worlds import records_that_stay
from twolists.worlds import standing_worlds
from twolists.worlds import told_that_stay

SIDES = (0, 1)
MOST_TOLD_IN_FORCE = 20
MOST_TOLD_IN_ALL = 60
MOST_RECORDS_IN_FORCE = 10
MOST_RECORDS_IN_ALL = 30
MOST_CHOICES = 16


class Comparison:
    """Each call answers a list of whole numbers; a refusal is one number below 0 and changes nothing."""

    def __init__(self):
        self.checklists = {}
        self.told = Ledger(MOST_TOLD_IN_FORCE, MOST_TOLD_IN_ALL)
        self.recorded = Ledger(MOST_RECORDS_IN_FORCE, MOST_RECORDS_IN_ALL)
        self.lay_ground()

    def side_list(self, side):
        """The list of a side; one with no concepts where the side has none."""
        if side in self.checklists:
            return self.checklists[side]
        return Checklist(side, [], [])

    def side_chains(self, side):
        """The chains of a side's concepts by number."""
        return self.side_list(side).chains

    def lay_ground(self):
        self.ground = Ground(self.side_list(0), self.side_list(1))

    def has_concept(self, number):
        return any([number in self.side_chains(side) for side in SIDES])

    def has_concepts(self, numbers):
        return all([self.has_concept(number) for number in numbers])

    def load(self, side, text):
        if side not in SIDES:
            return [-1]
        if side in self.checklists:
            return [-2]
        lines = split_lines(text)
        rows = leading_rows(lines)
        refusal = text_refusal(lines, rows)
        if refusal < 0:
            return [refusal]
        self.checklists[side] = Checklist(side, text, rows)
        self.lay_ground()
        return [len(rows)]

    def show(self, side):
        if side not in SIDES:
            return [-1]
        if side not in self.checklists:
            return [-2]
        return [0] + self.checklists[side].text

    def tell_refusal(self, key, c, d, mask):
        if not is_key(key):
            return -1
        if not self.has_concept(c):
            return -2
        if not self.has_concept(d) or d == c:
            return -3
        if mask < 1 or mask > ALL:
            return -4
        return self.told.refusal(key, -5)

    def tell(self, key, c, d, mask):
        refusal = self.tell_refusal(key, c, d, mask)
        if refusal == 0:
            self.told.enter(key, (c, d, mask))
        return [refusal]

    def withdraw(self, key):
        return [self.told.end_force(key)]

    def record_refusal(self, key, first, second):
        if not is_key(key):
            return -1
        if not self.has_concepts(first):
            return -2
        if not self.has_concepts(second):
            return -3
        return self.recorded.refusal(key, -4)

    def record(self, key, first, second):
        refusal = self.record_refusal(key, first, second)
        if refusal == 0:
            self.recorded.enter(key, (first, second))
        return [refusal]

    def drop(self, key):
        return [self.recorded.end_force(key)]

    def whole_table(self):
        return quick_table(self.side_chains(0), self.side_chains(1), self.told.entry_list(), self.recorded.entry_list())

    def quick(self):
        table = self.whole_table()
        masks = []
        for c in self.side_chains(0):
            masks.extend([table[c][d] for d in self.side_chains(1)])
        return [len(masks)] + masks

    def has_too_many_choices(self):
        return count_choices(self.told.entry_list()) > MOST_CHOICES

    def worlds(self):
        """The greatest worlds of the choices that stand, in the order of choices."""
        return standing_worlds(self.ground, self.told.entry_list(), self.recorded.entry_list())

    def masks_to(self, worlds, c, numbers):
        """The masks of the relations that are possible between c and each of some concepts."""
        extents = self.ground.extents
        return [possible_mask(worlds, extents[c], extents[d]) for d in numbers]

    def exact(self, c, d):
        if not self.has_concept(c):
            return [-1]
        if not self.has_concept(d):
            return [-2]
        if self.has_too_many_choices():
            return [-3]
        return self.masks_to(self.worlds(), c, [d])

    def matrix(self):
        if self.has_too_many_choices():
            return [-1]
        worlds = self.worlds()
        masks = []
        for c in self.side_chains(0):
            masks.extend(self.masks_to(worlds, c, self.side_chains(1)))
        return [len(masks)] + masks

    def model(self):
        if self.has_too_many_choices():
            return [-1]
        worlds = self.worlds()
        if worlds == []:
            return [-2]
        pairs = self.ground.pairs_of(worlds[0].spots)
        answer = [len(pairs)]
        for pair in pairs:
            answer.extend(pair)
        return answer

    def conflict(self):
        if self.has_too_many_choices():
            return [-1]
        if self.worlds() != []:
            return [-2]
        told = told_that_stay(self.ground, self.told.entries(), self.recorded.entry_list())
        records = records_that_stay(self.ground, list(told.values()), self.recorded.entries())
        return [len(told)] + list(told) + [len(records)] + list(records)

    def translation(self, c):
        if not self.has_concept(c):
            return [-1]
        if self.has_too_many_choices():
            return [-2]
        worlds = self.worlds()
        if worlds == []:
            return [-3]
        chains = self.side_chains(1 if c in self.side_chains(0) else 0)
        verdicts = [verdict_of_mask(mask) for mask in self.masks_to(worlds, c, chains)]
        return [1 + len(verdicts), narrowest_sure(chains, verdicts)] + verdicts

    def placed(self, key):
        records = self.recorded.entries()
        if key not in records:
            return [-1]
        if self.has_too_many_choices():
            return [-2]
        worlds = self.worlds()
        if worlds == []:
            return [-3]
        spots = self.ground.recorded_spots(records[key][0], records[key][1]) & all_spots(worlds)
        verdicts = [verdict_of_spots(spots, extent) for extent in self.ground.extents.values()]
        return [len(verdicts)] + verdicts

    def built(self):
        table = self.whole_table()
        if not is_settled(table):
            return [-1]
        points = points_of(table)
        answer = [len(points)]
        for point in points:
            answer.extend([len(point)] + point)
        return answer
