"""The quick table: for each two concepts the relations that the compositions leave."""

from twolists.relations import ALL
from twolists.relations import APART
from twolists.relations import EQUAL
from twolists.relations import EQUAL_OR_HOLDS
from twolists.relations import EQUAL_OR_WITHIN
from twolists.relations import composition_rows
from twolists.relations import turn_mask


def first_mask(own_chains, other_chains, c, d):
    """How the mask of (c, d) begins; the first chains are those of c's list."""
    if d in other_chains:
        return ALL
    if c == d:
        return EQUAL
    if d in own_chains[c]:
        return EQUAL_OR_WITHIN
    if c in own_chains[d]:
        return EQUAL_OR_HOLDS
    return APART


def add_first_rows(table, own_chains, other_chains, concepts):
    for c in own_chains:
        row = {}
        for d in concepts:
            row[d] = first_mask(own_chains, other_chains, c, d)
        table[c] = row


def keep_only(table, c, d, mask):
    table[c][d] = table[c][d] & mask


def take_away(table, c, d, mask):
    table[c][d] = table[c][d] & (ALL - mask)


def take_told(table, told):
    """Takes away what the told relations, each (c, d, mask), rule out."""
    for c, d, mask in told:
        keep_only(table, c, d, mask)
        keep_only(table, d, c, turn_mask(mask))


def take_recorded(table, records):
    """Takes away what the records, each (first concepts, second concepts), rule out."""
    for first, second in records:
        for c in first:
            for d in first:
                take_away(table, c, d, APART)
            for d in second:
                take_away(table, c, d, EQUAL_OR_WITHIN)
                take_away(table, d, c, EQUAL_OR_HOLDS)


def narrowed_mask(table, concepts, compositions, c, d):
    row = table[c]
    mask = row[d]
    for e in concepts:
        mask = mask & compositions[row[e]][table[e][d]]
    return mask


def narrow_once(table, concepts, compositions):
    """Goes once through all masks; answers whether one of them was changed."""
    changed = False
    for c in concepts:
        for d in concepts:
            mask = narrowed_mask(table, concepts, compositions, c, d)
            if mask != table[c][d]:
                table[c][d] = mask
                changed = True
    return changed


def quick_table(chains, other_chains, told, records):
    """The masks by c and d, a dict of dicts; chains are those of side 0 and of side 1."""
    concepts = list(chains) + list(other_chains)
    table = {}
    add_first_rows(table, chains, other_chains, concepts)
    add_first_rows(table, other_chains, chains, concepts)
    take_told(table, told)
    take_recorded(table, records)
    compositions = composition_rows()
    changed = True
    while changed:
        changed = narrow_once(table, concepts, compositions)
    return table
