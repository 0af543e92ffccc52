"""Machines, whose head goes to and fro on a word between two walls.

A room's moves are asked by column: 0 at the left wall, letter + 1 at a letter,
letters + 1 at the right wall.
"""

from backhead.errors import NoMachine, NoWord

MOST_LETTERS = 3
MOST_ROOMS = 12
ENDS = ("yes", "no")


def is_number(thing, low, high):
    # True and False would pass for 1 and 0.
    if isinstance(thing, bool) or not isinstance(thing, int):
        return False
    return low <= thing <= high


def is_row(thing, low, high):
    return isinstance(thing, tuple) and low <= len(thing) <= high


def ways_at(column, letters):
    if column == 0:
        return (1,)
    if column == letters + 1:
        return (-1,)
    return (1, -1)


def is_move(move, count, ways):
    if isinstance(move, str):
        return move in ENDS
    if not is_row(move, 2, 2) or not is_number(move[0], 0, count - 1):
        return False
    return is_number(move[1], -1, 1) and move[1] in ways


def is_room(room, count, letters):
    if not is_row(room, letters + 2, letters + 2):
        return False
    return all([is_move(move, count, ways_at(column, letters)) for column, move in enumerate(room)])


def is_machine(thing):
    if not is_row(thing, 2, 2) or not is_number(thing[0], 1, MOST_LETTERS):
        return False
    rooms = thing[1]
    if not is_row(rooms, 1, MOST_ROOMS):
        return False
    return all([is_room(room, len(rooms), thing[0]) for room in rooms])


def checked(machine):
    if not is_machine(machine):
        raise NoMachine("this is no machine")
    return machine


def checked_word(word, letters):
    if not isinstance(word, tuple) or not all([is_number(letter, 0, letters - 1) for letter in word]):
        raise NoWord("this is no word of these letters")
    return word


def run(machine, word):
    checked(machine)
    letters = machine[0]
    checked_word(word, letters)
    columns = [0] + [letter + 1 for letter in word] + [letters + 1]
    stood = {}
    room = 0
    place = 0
    while (room, place) not in stood:
        stood[(room, place)] = len(stood)
        move = machine[1][room][columns[place]]
        if isinstance(move, str):
            return (move, len(stood))
        room = move[0]
        place = place + move[1]
    first = stood[(room, place)]
    return ("round", first, len(stood) - first)
