"""A list of concepts, read from its text."""

LINE_FEED = 10
BLANK = 32
PLUS = 43
LONGEST_NAME = 20
MOST_LINES = 8
SIDE_STEP = 100


class Row:
    """What one line tells: how deep it stands, its name, and whether it has a plus."""

    def __init__(self, depth, name, plus):
        self.depth = depth
        self.name = name
        self.plus = plus


class Checklist:
    """The list of one side: its text as it was loaded, each concept's chain by the concept's number, and the concepts
    in which a thing can lie deepest.
    """

    def __init__(self, side, text, rows):
        self.text = text
        self.chains = chains_of(side, rows)
        self.deepest = [number for number, row in zip(self.chains, rows) if not row.plus]


def split_lines(text):
    """The lines of a text; there is always one more than there are line feeds."""
    lines = []
    line = []
    for sign in text:
        if sign == LINE_FEED:
            lines.append(line)
            line = []
        else:
            line.append(sign)
    lines.append(line)
    return lines


def is_letter(sign):
    return 65 <= sign <= 90 or 97 <= sign <= 122


def end_of_blanks(line):
    place = 0
    while place < len(line) and line[place] == BLANK:
        place += 1
    return place


def end_of_letters(line, start):
    place = start
    while place < len(line) and is_letter(line[place]):
        place += 1
    return place


def read_row(line):
    """The row that a line tells, or None where the line isn't of a concept's form."""
    depth = end_of_blanks(line)
    end = end_of_letters(line, depth)
    length = end - depth
    if length < 1 or length > LONGEST_NAME:
        return None
    tail = line[end:]
    if tail != [] and tail != [BLANK, PLUS]:
        return None
    return Row(depth, line[depth:end], tail != [])


def may_follow(row, rows):
    """Whether a row may stand in a list behind these rows."""
    if len(rows) == MOST_LINES:
        return False
    deepest = rows[-1].depth + 1 if rows else 0
    if row.depth > deepest:
        return False
    return row.name not in [other.name for other in rows]


def leading_rows(lines):
    """The rows of the lines ahead of the first one that can't stand in a list."""
    rows = []
    for line in lines:
        row = read_row(line)
        if row is None or not may_follow(row, rows):
            return rows
        rows.append(row)
    return rows


def has_part(rows, place):
    # No line is more than one deeper than the line before it, so a first part is the very next line.
    return place + 1 < len(rows) and rows[place + 1].depth > rows[place].depth


def text_refusal(lines, rows):
    """Why lines with these leading rows are no list: a number below 0, or 0 where they are one."""
    if len(rows) < len(lines):
        return -100 - (len(rows) + 1)
    for place, row in enumerate(rows):
        if row.plus and not has_part(rows, place):
            return -200 - (place + 1)
    return 0


def chains_of(side, rows):
    """Each concept's chain, from itself upwards, by the concept's number, in the order of the lines."""
    chains = {}
    open_chain = []
    for place, row in enumerate(rows):
        number = side * SIDE_STEP + place
        # A chain runs upwards, so its last members, as many as this row is deep, are what this row lies under.
        above = open_chain[len(open_chain) - row.depth:]
        open_chain = [number] + above
        chains[number] = open_chain
    return chains
