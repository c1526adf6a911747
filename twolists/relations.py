"""The five relations of two sets, masks of them, and how they compose."""

EQUAL = 1
WITHIN = 2
HOLDS = 4
OVERLAP = 8
APART = 16
EQUAL_OR_WITHIN = 3
EQUAL_OR_HOLDS = 5
ALL = 31
RELATIONS = (1, 2, 4, 8, 16)

# By the first relation and the second; with equal the other one stays, so equal has no row and no column.
COMPOSED = {
    (2, 2): 2, (2, 4): 31, (2, 8): 26, (2, 16): 16,
    (4, 2): 15, (4, 4): 4, (4, 8): 12, (4, 16): 28,
    (8, 2): 10, (8, 4): 28, (8, 8): 31, (8, 16): 28,
    (16, 2): 26, (16, 4): 16, (16, 8): 26, (16, 16): 31,
}


def relations_in(mask):
    """The relations of a mask, in the order equal, within, holds, overlap, apart."""
    return [relation for relation in RELATIONS if mask & relation]


def turn_relation(relation):
    """The relation of d to c, where c has this one to d."""
    if relation == WITHIN:
        return HOLDS
    if relation == HOLDS:
        return WITHIN
    return relation


def turn_mask(mask):
    """The mask of (d, c), where that of (c, d) is this one."""
    return sum([turn_relation(relation) for relation in relations_in(mask)])


def compose(first, second):
    """The mask of what may hold of a first and a third set, by way of a second."""
    if first == EQUAL:
        return second
    if second == EQUAL:
        return first
    return COMPOSED[(first, second)]


def compose_with_mask(first, mask):
    """The mask of all compositions of one relation with a relation of the mask."""
    found = 0
    for second in relations_in(mask):
        found = found | compose(first, second)
    return found


def lay_together(row, other_row):
    return [mask | other_mask for mask, other_mask in zip(row, other_row)]


def composition_rows():
    """For each first mask a row that has for each second mask the mask of all their compositions."""
    # The rows are laid on one another, as working out each of the 1024 pairs anew takes many times as long.
    rows = [[0 for mask in range(ALL + 1)]]
    for relation in RELATIONS:
        own_row = [compose_with_mask(relation, mask) for mask in range(ALL + 1)]
        rows = rows + [lay_together(row, own_row) for row in rows]
    return rows
