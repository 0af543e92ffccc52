"""Machines, readers, words and odd things for the tests."""

import itertools


class Stubborn:
    """Answers no question that a check has any business asking."""

    __hash__ = None

    def __eq__(self, other):
        raise RuntimeError("compared")

    def __len__(self):
        raise RuntimeError("measured")

    def __iter__(self):
        raise RuntimeError("walked")

    def __bool__(self):
        raise RuntimeError("tried for truth")


def odd_things():
    """Things of any kind: neither machines nor readers, words nor fates."""
    return [
        None, True, False, -1, 0, 1, 10 ** 50, 1.0, float("nan"), 1j, "", "a", "Yes", "yes ", b"yes",
        [], [0], {}, {0: 0}, set(), frozenset(), range(2), object(), Stubborn(), len, int, iter(()),
        (None,), (True,), ("yes",), ([],), (Stubborn(),), (Stubborn(), Stubborn()),
        (Stubborn(), Stubborn(), Stubborn()), (1, Stubborn()), (1, (Stubborn(),)), (1, ((Stubborn(),),), ()),
        (1, ((Stubborn(), Stubborn(), Stubborn()),)), (1, (((Stubborn(), Stubborn()), "yes", "yes"),)),
        (1, ((0,),), (Stubborn(),)),
    ]


class Dice:
    """Numbers without pattern, but the same in every run."""

    def __init__(self, seed):
        self.state = seed

    def below(self, count):
        self.state = (self.state * 6364136223846793005 + 1442695040888963407) % 2 ** 64
        return (self.state >> 33) % count


def words_of(letters, length):
    return [tuple(word) for word in itertools.product(range(letters), repeat=length)]


def words_up_to(letters, length):
    """All words of up to that many letters, in order."""
    return [word for many in range(length + 1) for word in words_of(letters, many)]


def some_move(dice, letters, rooms, column, ends):
    """One of about `ends` moves is an end."""
    if dice.below(ends) == 0:
        return ("yes", "no")[dice.below(2)]
    if column == 0:
        way = 1
    elif column == letters + 1:
        way = -1
    else:
        way = (1, 1, -1)[dice.below(3)]
    return (dice.below(rooms), way)


def some_machine(dice, letters, rooms, ends):
    return (letters, tuple(
        tuple(some_move(dice, letters, rooms, column, ends) for column in range(letters + 2))
        for room in range(rooms)))


def some_machines():
    dice = Dice(2)
    return [some_machine(dice, letters, rooms, ends)
            for letters in (1, 2, 3) for rooms in (1, 2, 3, 4, 6, 12) for ends in (3, 6, 12, 40)]


def some_reader(dice, letters, stands, chance):
    rows = tuple(tuple(dice.below(stands) for letter in range(letters)) for stand in range(stands))
    return (letters, rows, tuple(stand for stand in range(stands) if dice.below(chance) == 0))


def some_readers():
    dice = Dice(5)
    return [some_reader(dice, letters, stands, chance)
            for letters in (1, 2, 3) for stands in (1, 2, 3, 5, 9, 17) for chance in (1, 2, 3, 7)]


def ring(stands):
    """Takes the words of one letter whose length is one less than a multiple of that many."""
    return (1, tuple(((stand + 1) % stands,) for stand in range(stands)), (stands - 1,))


def every(letters):
    return (letters, ((0,) * letters,), (0,))


def nothing(letters):
    return (letters, ((0,) * letters,), ())


def unlike_readers():
    """Each two readers of unlike many letters that take all or no words."""
    readers = [make(letters) for letters in (1, 2, 3) for make in (every, nothing)]
    return [(one, other) for one in readers for other in readers if one[0] != other[0]]


# Goes to the right; a 1 sends it back in room 1, which ends at a 0 with yes and
# goes round between the left wall and a 1 behind it.
BACK_AT_ONE = (2, (
    ((0, 1), (0, 1), (1, -1), "no"),
    ((1, 1), "yes", (1, -1), "no"),
))

# Goes right to the wall and back, once for each of three rooms, and there ends.
SHUTTLE = (1, (
    ((0, 1), (0, 1), (1, -1)),
    ((2, 1), (1, -1), "no"),
    ((2, 1), (2, 1), "yes"),
))

# Each kind of going round: between the walls, for ever to and fro on two places.
NEVER_ENDS = (1, (
    ((0, 1), (0, 1), (1, -1)),
    ((0, 1), (1, -1), (1, -1)),
))
