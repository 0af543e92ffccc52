"""Machines made of other machines and of readers."""

from backhead.errors import TooBig, Unlike
from backhead.machines import MOST_ROOMS, checked
from backhead.readers import checked_reader, marks_of


def check_size(count):
    if count > MOST_ROOMS:
        raise TooBig("a machine has no more than 12 rooms")


def moved_on(move, by):
    if isinstance(move, str):
        return move
    return (move[0] + by, move[1])


def mirrored(move):
    if isinstance(move, str):
        return move
    # Room 0 is taken by the way to the right wall.
    return (move[0] + 1, -move[1])


def mirrored_room(room):
    walls_exchanged = (room[-1],) + room[1:-1] + (room[0],)
    return tuple([mirrored(move) for move in walls_exchanged])


def turned(machine):
    checked(machine)
    letters = machine[0]
    rooms = machine[1]
    check_size(len(rooms) + 1)
    to_the_right = ((0, 1),) * (letters + 1) + (mirrored(rooms[0][0]),)
    return (letters, tuple([to_the_right] + [mirrored_room(room) for room in rooms]))


def with_yes_going_on(room, back):
    moves = []
    for column, move in enumerate(room):
        way = 1 if column == 0 else -1
        moves.append((back, way) if move == "yes" else move)
    return tuple(moves)


def one_after(one, other):
    checked(one)
    checked(other)
    letters = one[0]
    if letters != other[0]:
        raise Unlike("these machines have unlike many letters")
    back = len(one[1])
    check_size(back + 1 + len(other[1]))
    ahead = [with_yes_going_on(room, back) for room in one[1]]
    behind = [tuple([moved_on(move, back + 1) for move in room]) for room in other[1]]
    to_the_left = (behind[0][0],) + ((back, -1),) * (letters + 1)
    return (letters, tuple(ahead + [to_the_left] + behind))


def machine_of(reader):
    checked_reader(reader)
    check_size(len(reader[1]))
    marks = marks_of(reader)
    rooms = []
    for stand, row in enumerate(reader[1]):
        end = "yes" if marks[stand] else "no"
        rooms.append(tuple([(stand, 1)] + [(goal, 1) for goal in row] + [end]))
    return (reader[0], tuple(rooms))
