"""Readers, which go through a word once."""

from backhead.doings import explored, fate_of
from backhead.errors import NoFate, NoReader
from backhead.machines import MOST_LETTERS, checked, checked_word, is_number, is_row
from backhead.merging import least_reader

MOST_STANDS = 2000
FATES = ("yes", "no", "round")


def are_stands(thing, count):
    return isinstance(thing, tuple) and all([is_number(stand, 0, count - 1) for stand in thing])


def is_rising(numbers):
    return all([numbers[k] < numbers[k + 1] for k in range(len(numbers) - 1)])


def is_reader(thing):
    if not is_row(thing, 3, 3) or not is_number(thing[0], 1, MOST_LETTERS):
        return False
    rows = thing[1]
    if not is_row(rows, 1, MOST_STANDS):
        return False
    if not all([are_stands(row, len(rows)) and len(row) == thing[0] for row in rows]):
        return False
    return are_stands(thing[2], len(rows)) and is_rising(thing[2])


def checked_reader(reader):
    if not is_reader(reader):
        raise NoReader("this is no reader")
    return reader


def takes(reader, word):
    checked_reader(reader)
    checked_word(word, reader[0])
    stand = 0
    for letter in word:
        stand = reader[1][stand][letter]
    return stand in reader[2]


def marks_of(reader):
    marks = [False for row in reader[1]]
    for stand in reader[2]:
        marks[stand] = True
    return marks


def least(reader):
    checked_reader(reader)
    return least_reader(reader[0], reader[1], marks_of(reader))


def reader_of(machine, fate):
    checked(machine)
    if not isinstance(fate, str) or fate not in FATES:
        raise NoFate("this is none of the three fates")
    table = explored(machine)
    good = [fate_of(machine, entry[1]) == fate for entry in table[0]]
    return least_reader(machine[0], table[1], good)
