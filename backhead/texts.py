"""Machines written as texts, and read back."""

from backhead.errors import NoText
from backhead.machines import ENDS, MOST_LETTERS, MOST_ROOMS, checked, ways_at


def shown_move(move):
    if isinstance(move, str):
        return move
    return str(move[0]) + (">" if move[1] == 1 else "<")


def shown(machine):
    checked(machine)
    lines = [str(machine[0])]
    for room in machine[1]:
        lines.append(" ".join([shown_move(move) for move in room]))
    return "".join([line + "\n" for line in lines])


def moves_by_text(count, ways):
    moves = dict([(end, end) for end in ENDS])
    for way in ways:
        for room in range(count):
            moves[shown_move((room, way))] = (room, way)
    return moves


def letters_read(line):
    for letters in range(1, MOST_LETTERS + 1):
        if line == str(letters):
            return letters
    raise NoText("the first line is no number of letters")


def room_read(line, columns):
    parts = line.split(" ")
    if len(parts) != len(columns):
        raise NoText("this line has not one move for each letter and two")
    # Looked up, not worked out: so nothing is read that is not written just so.
    if not all([part in moves for part, moves in zip(parts, columns)]):
        raise NoText("this line has a part that is no move there")
    return tuple([moves[part] for part, moves in zip(parts, columns)])


def read(text):
    if not isinstance(text, str):
        raise NoText("this is no text")
    lines = text.split("\n")
    # The last line is ended too, so nothing stands behind its end.
    if lines[-1] != "":
        raise NoText("the last line is not ended")
    letters = letters_read(lines[0])
    count = len(lines) - 2
    if not 1 <= count <= MOST_ROOMS:
        raise NoText("no machine has so many rooms")
    columns = [moves_by_text(count, ways_at(column, letters)) for column in range(letters + 2)]
    return (letters, tuple([room_read(line, columns) for line in lines[1:-1]]))
