"""What a beginning does to whatever comes behind it.

Done is, throughout, the tuple of what a word does; moves are those of all rooms at one column.
"""

from backhead.machines import checked, checked_word


def moves_at(machine, column):
    return [room[column] for room in machine[1]]


def told(ends, first):
    return tuple([first] + ends)


def done_by_none(machine):
    ends = [move if isinstance(move, str) else move[0] for move in moves_at(machine, 0)]
    return told(ends, ends[0])


def what_comes_of(room, moves, done):
    at = room
    # A head that is here once more than there are rooms is in one of them again.
    for visit in range(len(moves)):
        move = moves[at]
        if isinstance(move, str):
            return move
        if move[1] == 1:
            return move[0]
        back = done[move[0] + 1]
        if isinstance(back, str):
            return back
        at = back
    return "round"


def done_with(moves, done):
    ends = [what_comes_of(room, moves, done) for room in range(len(moves))]
    first = done[0]
    if isinstance(first, str):
        return told(ends, first)
    return told(ends, ends[first])


def fate_of(machine, done):
    if isinstance(done[0], str):
        return done[0]
    # No move at the right wall goes out, so what comes of it is an end or a round.
    return what_comes_of(done[0], moves_at(machine, machine[0] + 1), done)


def doing(machine, word):
    checked(machine)
    checked_word(word, machine[0])
    columns = [moves_at(machine, letter + 1) for letter in range(machine[0])]
    done = done_by_none(machine)
    for letter in word:
        done = done_with(columns[letter], done)
    return done


def explored(machine):
    # The first word that does a thing goes on from a first word, so going on from
    # these alone, in their order, misses none and keeps the order.
    columns = [moves_at(machine, letter + 1) for letter in range(machine[0])]
    found = [((), done_by_none(machine))]
    numbers = {found[0][1]: 0}
    rows = []
    while len(rows) < len(found):
        word = found[len(rows)][0]
        done = found[len(rows)][1]
        row = []
        for letter, moves in enumerate(columns):
            more = done_with(moves, done)
            if more not in numbers:
                numbers[more] = len(found)
                found.append((word + (letter,), more))
            row.append(numbers[more])
        rows.append(tuple(row))
    return (found, rows)


def doings(machine):
    return explored(checked(machine))[0]
