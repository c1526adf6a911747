"""Points built from a quick table that has one relation alone for each two concepts."""

from twolists.relations import EQUAL_OR_WITHIN
from twolists.relations import OVERLAP
from twolists.relations import RELATIONS


def is_settled(table):
    """Whether each mask of the table is one relation alone."""
    for row in table.values():
        for mask in row.values():
            if mask not in RELATIONS:
                return False
    return True


def point_of(table, numbers):
    """The concepts that one of these concepts is equal to or within."""
    return [e for e in table if any([table[c][e] & EQUAL_OR_WITHIN for c in numbers])]


def points_of(table):
    """A point for each concept, then one for each two that overlap; concepts in the table's order."""
    concepts = list(table)
    points = [point_of(table, [c]) for c in concepts]
    for place, c in enumerate(concepts):
        for d in concepts[place + 1:]:
            if table[c][d] == OVERLAP:
                points.append(point_of(table, [c, d]))
    return points
