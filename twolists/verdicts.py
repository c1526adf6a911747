"""What's sure, what's possible, and what's neither, as the numbers 2, 1 and 0."""

from twolists.relations import APART
from twolists.relations import EQUAL_OR_WITHIN

SURE = 2
MAYBE = 1
NEVER = 0
NO_CONCEPT = -1


def verdict_of_mask(mask):
    """Whether what's in c is in d, by the mask of the relations that are possible between c and d."""
    if (mask & EQUAL_OR_WITHIN) == mask:
        return SURE
    if mask == APART:
        return NEVER
    return MAYBE


def verdict_of_spots(spots, extent):
    """Whether a thing is in a concept, by the spots where the thing may be and those that are in the concept."""
    inside = spots & extent
    if inside == spots:
        return SURE
    if inside == 0:
        return NEVER
    return MAYBE


def narrowest_sure(chains, verdicts):
    """Of concepts, told by their chains with a verdict for each, the one with the longest chain of those that are sure;
    -1 where none is.
    """
    sure = [number for number, verdict in zip(chains, verdicts) if verdict == SURE]
    return max(sure, key=lambda number: len(chains[number]), default=NO_CONCEPT)
