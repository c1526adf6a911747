"""The calls as one list of whole numbers, and their answers as another."""

from twolists.comparison import Comparison
from twolists.reader import Reader


def ask_load(comparison, reader):
    side = reader.next_number()
    text = reader.next_row()
    return comparison.load(side, text)


def ask_show(comparison, reader):
    side = reader.next_number()
    return comparison.show(side)


def ask_tell(comparison, reader):
    key = reader.next_number()
    c = reader.next_number()
    d = reader.next_number()
    mask = reader.next_number()
    return comparison.tell(key, c, d, mask)


def ask_withdraw(comparison, reader):
    key = reader.next_number()
    return comparison.withdraw(key)


def ask_record(comparison, reader):
    key = reader.next_number()
    first = reader.next_row()
    second = reader.next_row()
    return comparison.record(key, first, second)


def ask_drop(comparison, reader):
    key = reader.next_number()
    return comparison.drop(key)


def ask_quick(comparison, reader):
    return comparison.quick()


def ask_exact(comparison, reader):
    c = reader.next_number()
    d = reader.next_number()
    return comparison.exact(c, d)


def ask_matrix(comparison, reader):
    return comparison.matrix()


def ask_model(comparison, reader):
    return comparison.model()


def ask_conflict(comparison, reader):
    return comparison.conflict()


def ask_translate(comparison, reader):
    c = reader.next_number()
    return comparison.translation(c)


def ask_placed(comparison, reader):
    key = reader.next_number()
    return comparison.placed(key)


def ask_built(comparison, reader):
    return comparison.built()


# By a call's number.
CALLS = (ask_load, ask_show, ask_tell, ask_withdraw, ask_record, ask_drop, ask_quick,
         ask_exact, ask_matrix, ask_model, ask_conflict, ask_translate, ask_placed, ask_built)


def answers(calls):
    """For each call how many numbers are answered, then these."""
    comparison = Comparison()
    reader = Reader(calls)
    answered = []
    while not reader.at_end():
        ask = CALLS[reader.next_number()]
        answer = ask(comparison, reader)
        answered.append(len(answer))
        answered.extend(answer)
    return answered
