"""Writes calls as numbers and takes their answers apart, for all tests."""

from twolists.desk import answers

EQUAL = 1
WITHIN = 2
HOLDS = 4
OVERLAP = 8
APART = 16


def load(side, text):
    """text may be a str of ASCII signs or a list of bytes."""
    signs = list(text.encode("ascii")) if isinstance(text, str) else list(text)
    return [0, side, len(signs)] + signs


def show(side):
    return [1, side]


def tell(key, c, d, mask):
    return [2, key, c, d, mask]


def withdraw(key):
    return [3, key]


def record(key, first, second):
    return [4, key, len(first)] + list(first) + [len(second)] + list(second)


def drop(key):
    return [5, key]


def quick():
    return [6]


def exact(c, d):
    return [7, c, d]


def matrix():
    return [8]


def model():
    return [9]


def conflict():
    return [10]


def translate(c):
    return [11, c]


def placed(key):
    return [12, key]


def built():
    return [13]


def ask(*calls):
    """Each call's answer as a list of its own."""
    numbers = [number for call in calls for number in call]
    answered = answers(numbers)
    assert all(type(number) is int for number in answered), answered
    parts = []
    place = 0
    while place < len(answered):
        end = place + 1 + answered[place]
        parts.append(answered[place + 1:end])
        place = end
    assert place == len(answered), answered
    assert len(parts) == len(calls), (len(parts), len(calls))
    return parts


def last(*calls):
    return ask(*calls)[-1]
