"""Readers joined: they take the words that both take, that either takes, and so on.

Wanted is, throughout, a tuple of pairs (the one takes it, the other takes it): words of which one of these holds
are wanted. Pairs are those of stands that words lead the two readers to, in order of the first words that do so.
"""

from backhead.errors import Unlike
from backhead.merging import least_reader
from backhead.readers import checked_reader, least, marks_of

IN_BOTH = ((True, True),)
IN_EITHER = ((True, True), (True, False), (False, True))
IN_ONE_ALONE = ((True, False),)


class Pairs:

    def __init__(self, one, other, wanted):
        self.one_rows = one[1]
        self.one_marks = marks_of(one)
        self.other_rows = other[1]
        self.other_marks = marks_of(other)
        self.wanted = wanted
        self.numbers = {}
        self.met = []
        self.marks = []
        self.rows = []
        self.number_of(0, 0)

    def number_of(self, stand, other):
        # One number for a pair takes far less room than a tuple, and there may be millions.
        pair = stand * len(self.other_rows) + other
        if pair not in self.numbers:
            self.numbers[pair] = len(self.met)
            self.met.append(pair)
            self.marks.append((self.one_marks[stand], self.other_marks[other]) in self.wanted)
        return self.numbers[pair]

    def has_more(self):
        return len(self.rows) < len(self.met)

    def go_on(self):
        pair = divmod(self.met[len(self.rows)], len(self.other_rows))
        row = self.one_rows[pair[0]]
        other_row = self.other_rows[pair[1]]
        self.rows.append(tuple([self.number_of(stand, other) for stand, other in zip(row, other_row)]))


def pairs_of(one, other, wanted):
    checked_reader(one)
    checked_reader(other)
    if one[0] != other[0]:
        raise Unlike("these readers have unlike many letters")
    # Least readers lead to fewer pairs.
    return Pairs(least(one), least(other), wanted)


def joined(one, other, wanted):
    pairs = pairs_of(one, other, wanted)
    while pairs.has_more():
        pairs.go_on()
    return least_reader(one[0], pairs.rows, pairs.marks)


def both(one, other):
    return joined(one, other, IN_BOTH)


def either(one, other):
    return joined(one, other, IN_EITHER)


def less(one, other):
    return joined(one, other, IN_ONE_ALONE)


def contrary(reader):
    checked_reader(reader)
    return least_reader(reader[0], reader[1], [not mark for mark in marks_of(reader)])
