"""The object that the calls are made on: two lists, what was told of them, and records."""

from twolists.checklist import Checklist
from twolists.checklist import leading_rows
from twolists.checklist import split_lines
from twolists.checklist import text_refusal
from twolists.ledger import Ledger
from twolists.ledger import is_key
from twolists.relations import ALL
from twolists.table import quick_table

SIDES = (0, 1)
MOST_TOLD_IN_FORCE = 20
MOST_TOLD_IN_ALL = 60
MOST_RECORDS_IN_FORCE = 10
MOST_RECORDS_IN_ALL = 30


class Comparison:
    """Each call answers a list of whole numbers; a refusal is one number below 0 and changes nothing."""

    def __init__(self):
        self.checklists = {}
        self.told = Ledger(MOST_TOLD_IN_FORCE, MOST_TOLD_IN_ALL)
        self.recorded = Ledger(MOST_RECORDS_IN_FORCE, MOST_RECORDS_IN_ALL)

    def side_chains(self, side):
        """The chains of a side's concepts by number; none where the side has no list."""
        if side not in self.checklists:
            return {}
        return self.checklists[side].chains

    def has_concept(self, number):
        return any([number in self.side_chains(side) for side in SIDES])

    def has_concepts(self, numbers):
        return all([self.has_concept(number) for number in numbers])

    def load(self, side, text):
        if side not in SIDES:
            return [-1]
        if side in self.checklists:
            return [-2]
        lines = split_lines(text)
        rows = leading_rows(lines)
        refusal = text_refusal(lines, rows)
        if refusal < 0:
            return [refusal]
        self.checklists[side] = Checklist(side, text, rows)
        return [len(rows)]

    def show(self, side):
        if side not in SIDES:
            return [-1]
        if side not in self.checklists:
            return [-2]
        return [0] + self.checklists[side].text

    def tell_refusal(self, key, c, d, mask):
        if not is_key(key):
            return -1
        if not self.has_concept(c):
            return -2
        if not self.has_concept(d) or d == c:
            return -3
        if mask < 1 or mask > ALL:
            return -4
        return self.told.refusal(key, -5)

    def tell(self, key, c, d, mask):
        refusal = self.tell_refusal(key, c, d, mask)
        if refusal == 0:
            self.told.enter(key, (c, d, mask))
        return [refusal]

    def withdraw(self, key):
        return [self.told.end_force(key)]

    def record_refusal(self, key, first, second):
        if not is_key(key):
            return -1
        if not self.has_concepts(first):
            return -2
        if not self.has_concepts(second):
            return -3
        return self.recorded.refusal(key, -4)

    def record(self, key, first, second):
        refusal = self.record_refusal(key, first, second)
        if refusal == 0:
            self.recorded.enter(key, (first, second))
        return [refusal]

    def drop(self, key):
        return [self.recorded.end_force(key)]

    def quick(self):
        chains = self.side_chains(0)
        other_chains = self.side_chains(1)
        table = quick_table(chains, other_chains, self.told.entries(), self.recorded.entries())
        masks = []
        for c in chains:
            masks.extend([table[c][d] for d in other_chains])
        return [len(masks)] + masks
