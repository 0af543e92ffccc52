import unittest

from backhead.errors import NoMachine, NoReader, TooBig, Unlike
from backhead.machines import checked, run
from backhead.makes import machine_of, one_after, turned
from backhead.readers import least, reader_of, takes
from samples import (BACK_AT_ONE, NEVER_ENDS, SHUTTLE, Dice, every, nothing, odd_things, some_machine, some_machines,
                     some_reader, words_up_to)

FATES = ("yes", "no", "round")

# Goes left from a 1 and right from a 0, with ends at each column of some room.
MIXED = (2, (
    ((1, 1), (2, -1), "no", (1, -1)),
    ("yes", (0, 1), (1, 1), "no"),
    ("no", "yes", (0, -1), "yes"),
))

NO_MACHINES = [(1, (("yes", "no"),)), (1, (("yes", "no", (0, 1)),)), (1, (((1, 1), "no", "no"),)), (1, ()),
               (4, (("yes",) * 6,)), (1, [("yes", "no", "no")])]


def plain(letters, rooms):
    """A machine of that many rooms that ends with yes."""
    return (letters, (("yes",) * (letters + 2),) * rooms)


def broken(letters, rooms):
    """No machine: its last room has a move beyond the right wall."""
    return (letters, plain(letters, rooms)[1][1:] + (("no",) * (letters + 1) + ((0, 1),),))


def words_for(machine):
    return words_up_to(machine[0], (8, 5, 4)[machine[0] - 1])


def due_turned(machine):
    """Move by move, as the point tells it."""
    letters, rooms = machine

    def exchanged(move):
        return move if move in ("yes", "no") else (move[0] + 1, {1: -1, -1: 1}[move[1]])

    made = [[(0, 1) for column in range(letters + 1)] + [exchanged(rooms[0][0])]]
    for room in rooms:
        made.append([exchanged(room[letters + 1])] + [exchanged(room[1 + letter]) for letter in range(letters)]
                    + [exchanged(room[0])])
    return (letters, tuple(tuple(room) for room in made))


class Turned(unittest.TestCase):

    def test_room_by_room(self):
        self.assertEqual(turned(MIXED), (2, (
            ((0, 1), (0, 1), (0, 1), (2, -1)),
            ((2, 1), (3, 1), "no", (2, -1)),
            ("no", (1, -1), (2, -1), "yes"),
            ("yes", "yes", (1, 1), "no"),
        )))
        self.assertEqual(turned(SHUTTLE), (1, (
            ((0, 1), (0, 1), (1, -1)),
            ((2, 1), (1, -1), (1, -1)),
            ("no", (2, 1), (3, -1)),
            ("yes", (3, -1), (3, -1)),
        )))

    def test_an_end_at_the_left_wall(self):
        self.assertEqual(turned((1, (("yes", "no", (0, -1)),))), (1, (((0, 1), (0, 1), "yes"), ((1, 1), "no", "yes"))))
        self.assertEqual(turned((3, (("no", "yes", (0, 1), (0, -1), "yes"),))),
                         (3, (((0, 1), (0, 1), (0, 1), (0, 1), "no"), ("yes", "yes", (1, -1), (1, 1), "no"))))

    def test_the_letters_stay_in_order(self):
        machine = (3, (((0, 1), "yes", "no", (0, 1), "no"),))
        self.assertEqual(turned(machine)[1][1][1:-1], ("yes", "no", (1, -1)))

    def test_against_the_point(self):
        for machine in some_machines():
            if len(machine[1]) < 12:
                self.assertEqual(turned(machine), due_turned(machine))
                self.assertEqual(checked(turned(machine)), turned(machine))

    def test_the_fate_of_the_word_read_backwards(self):
        fates = {}
        for machine in some_machines() + [MIXED, BACK_AT_ONE, SHUTTLE, NEVER_ENDS]:
            if len(machine[1]) < 12:
                other = turned(machine)
                for word in words_for(machine):
                    fate = run(machine, word[::-1])[0]
                    self.assertEqual(run(other, word)[0], fate)
                    fates[fate] = True
        self.assertEqual(sorted(fates), sorted(FATES))

    def test_how_many_rooms(self):
        dice = Dice(41)
        for letters in (1, 2, 3):
            machine = some_machine(dice, letters, 11, 6)
            self.assertEqual(turned(machine), due_turned(machine))
            self.assertEqual(len(turned(machine)[1]), 12)
            for wide in (some_machine(dice, letters, 12, 6), plain(letters, 12)):
                with self.assertRaises(TooBig):
                    turned(wide)

    def test_refusals(self):
        for thing in odd_things() + NO_MACHINES:
            with self.assertRaises(NoMachine):
                turned(thing)
        # Where both are due.
        for thing in (broken(1, 12), broken(2, 12), plain(1, 13), broken(1, 13)):
            with self.assertRaises(NoMachine):
                turned(thing)


def due_after(one, other):
    """Move by move, as the point tells it."""
    letters, many = one[0], len(one[1])
    made = {}
    for room in range(many):
        for column in range(letters + 2):
            move = one[1][room][column]
            if move == "yes":
                move = (many, 1) if column == 0 else (many, -1)
            made[room, column] = move
    for room in range(len(other[1])):
        for column in range(letters + 2):
            move = other[1][room][column]
            if move not in ("yes", "no"):
                move = (move[0] + many + 1, move[1])
            made[many + 1 + room, column] = move
    made[many, 0] = made[many + 1, 0]
    for column in range(1, letters + 2):
        made[many, column] = (many, -1)
    rooms = range(many + 1 + len(other[1]))
    return (letters, tuple(tuple(made[room, column] for column in range(letters + 2)) for room in rooms))


def some_twos():
    dice = Dice(42)
    return [(some_machine(dice, letters, 1 + dice.below(6), ends), some_machine(dice, letters, 1 + dice.below(5), ends))
            for letters in (1, 2, 3) for ends in (2, 3, 4, 6, 12) for k in range(8)]


class OneAfter(unittest.TestCase):

    def test_room_by_room(self):
        self.assertEqual(one_after(MIXED, BACK_AT_ONE), (2, (
            ((1, 1), (2, -1), "no", (1, -1)),
            ((3, 1), (0, 1), (1, 1), "no"),
            ("no", (3, -1), (0, -1), (3, -1)),
            ((4, 1), (3, -1), (3, -1), (3, -1)),
            ((4, 1), (4, 1), (5, -1), "no"),
            ((5, 1), "yes", (5, -1), "no"),
        )))
        self.assertEqual(one_after((1, (("yes", "yes", "yes"),)), (1, (("yes", "no", (0, -1)),))), (1, (
            ((1, 1), (1, -1), (1, -1)),
            ("yes", (1, -1), (1, -1)),
            ("yes", "no", (2, -1)),
        )))

    def test_the_other_ends_at_the_left_wall(self):
        for end in ("yes", "no"):
            machine = one_after(SHUTTLE, (1, ((end, "no", "yes"), (end, end, end))))
            self.assertEqual(machine[1][3], (end, (3, -1), (3, -1)))
            for word in words_up_to(1, 5):
                self.assertEqual(run(machine, word)[0], end)

    def test_the_other_begins_in_another_room(self):
        other = (1, (((1, 1), "no", "no"), ("no", (1, 1), "yes")))
        self.assertEqual(one_after(SHUTTLE, other)[1][3:], (
            ((5, 1), (3, -1), (3, -1)),
            ((5, 1), "no", "no"),
            ("no", (5, 1), "yes"),
        ))

    def test_against_the_point(self):
        for one, other in some_twos():
            self.assertEqual(one_after(one, other), due_after(one, other))
            self.assertEqual(checked(one_after(one, other)), one_after(one, other))

    def test_the_fates_of_the_two(self):
        met = {}
        for one, other in some_twos() + [(MIXED, BACK_AT_ONE), (BACK_AT_ONE, MIXED), (MIXED, MIXED)]:
            made = one_after(one, other)
            for word in words_for(one):
                first, second = run(one, word)[0], run(other, word)[0]
                self.assertEqual(run(made, word)[0], second if first == "yes" else first)
                met[first, second] = True
        self.assertEqual(len(met), 9)

    def test_how_many_rooms(self):
        for letters in (1, 2, 3):
            for many in range(1, 13):
                for more in range(1, 13):
                    if many + 1 + more <= 12:
                        made = one_after(plain(letters, many), plain(letters, more))
                        self.assertEqual(len(made[1]), many + 1 + more)
                        self.assertEqual(made, due_after(plain(letters, many), plain(letters, more)))
                    else:
                        with self.assertRaises(TooBig):
                            one_after(plain(letters, many), plain(letters, more))

    def test_unlike_many_letters(self):
        for letters in (1, 2, 3):
            for others in (1, 2, 3):
                for rooms in (1, 5, 6, 12):
                    if letters != others:
                        # From 6 rooms on TooBig would be due too.
                        with self.assertRaises(Unlike):
                            one_after(plain(letters, rooms), plain(others, rooms))

    def test_no_machine_at_either_place(self):
        for thing in odd_things() + NO_MACHINES:
            for pair in ((thing, SHUTTLE), (SHUTTLE, thing), (thing, thing)):
                with self.assertRaises(NoMachine):
                    one_after(*pair)

    def test_no_machine_ahead_of_the_others(self):
        for letters in (1, 2, 3):
            for others in (1, 2, 3):
                for rooms in (1, 12):
                    with self.assertRaises(NoMachine):
                        one_after(plain(letters, rooms), broken(others, 12))
                    with self.assertRaises(NoMachine):
                        one_after(broken(letters, rooms), plain(others, 12))
                    with self.assertRaises(NoMachine):
                        one_after(plain(letters, rooms), plain(others, 13))


class MachineOf(unittest.TestCase):

    def test_room_by_room(self):
        reader = (2, ((1, 0), (1, 2), (2, 2)), (0, 2))
        self.assertEqual(machine_of(reader), (2, (
            ((0, 1), (1, 1), (0, 1), "yes"),
            ((1, 1), (1, 1), (2, 1), "no"),
            ((2, 1), (2, 1), (2, 1), "yes"),
        )))
        self.assertEqual(machine_of(every(1)), (1, (((0, 1), (0, 1), "yes"),)))
        self.assertEqual(machine_of(nothing(3)), (3, (((0, 1), (0, 1), (0, 1), (0, 1), "no"),)))

    def test_each_stand_has_its_room(self):
        # Stands that are never reached or could be merged too.
        self.assertEqual(machine_of((1, ((1,), (0,), (0,)), (0, 1, 2))), (1, (
            ((0, 1), (1, 1), "yes"), ((1, 1), (0, 1), "yes"), ((2, 1), (0, 1), "yes"))))

    def readers(self):
        dice = Dice(43)
        return [some_reader(dice, letters, stands, chance)
                for letters in (1, 2, 3) for stands in (1, 2, 3, 5, 11, 12) for chance in (1, 2, 3, 7)]

    def test_as_the_reader_takes(self):
        for reader in self.readers():
            machine = machine_of(reader)
            self.assertEqual(checked(machine), machine)
            self.assertEqual(len(machine[1]), len(reader[1]))
            for word in words_for(machine):
                # To the right wall, and there an end.
                self.assertEqual(run(machine, word), ("yes" if takes(reader, word) else "no", len(word) + 2))

    def test_back_to_the_reader(self):
        for reader in self.readers():
            machine = machine_of(reader)
            self.assertEqual(reader_of(machine, "yes"), least(reader))
            self.assertEqual(reader_of(machine, "round"), nothing(reader[0]))

    def test_how_many_stands(self):
        for letters in (1, 2, 3):
            for stands in (13, 14, 100, 2000):
                # Also where a least reader would be small.
                with self.assertRaises(TooBig):
                    machine_of((letters, ((0,) * letters,) * stands, (0,)))
            self.assertEqual(len(machine_of((letters, ((0,) * letters,) * 12, (0,)))[1]), 12)

    def test_refusals(self):
        for thing in odd_things() + [(1, ((1,),), ()), (1, ((0,),), (0, 0)), (1, ((0,),))]:
            with self.assertRaises(NoReader):
                machine_of(thing)
        # Where both are due.
        for thing in ((1, ((0,),) * 13, (13,)), (1, ((0,),) * 12 + ((13,),), ()), (1, ((0,),) * 2001, ())):
            with self.assertRaises(NoReader):
                machine_of(thing)


if __name__ == "__main__":
    unittest.main()
