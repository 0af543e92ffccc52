import unittest

from backhead.errors import NoMachine, NoWord
from backhead.machines import checked, run
from samples import BACK_AT_ONE, NEVER_ENDS, SHUTTLE, odd_things, some_machines, words_up_to

STILL = ("yes", "no", "yes")


def one_move(column, move, letters=2, rooms=3):
    """A machine that is one but perhaps for this move of its second room."""
    plain = ["no"] * (letters + 2)
    plain[column] = move
    return (letters, (("yes",) * (letters + 2), tuple(plain)) + (("no",) * (letters + 2),) * (rooms - 2))


class Machines(unittest.TestCase):

    def refuse(self, thing):
        with self.assertRaises(NoMachine):
            checked(thing)

    def test_few_and_many_letters_and_rooms(self):
        for letters in (1, 2, 3):
            for rooms in (1, 2, 11, 12):
                machine = (letters, (((rooms - 1, 1),) * (letters + 1) + ((0, -1),),) * rooms)
                with self.subTest(letters=letters, rooms=rooms):
                    self.assertEqual(checked(machine), machine)

    def test_machines_are_told(self):
        for machine in some_machines() + [BACK_AT_ONE, SHUTTLE, NEVER_ENDS]:
            self.assertEqual(checked(machine), machine)

    def test_every_end_and_way_at_every_column(self):
        for column in range(4):
            for end in ("yes", "no"):
                self.assertEqual(checked(one_move(column, end)), one_move(column, end))
            for way in ((1,), (1, -1), (1, -1), (-1,))[column]:
                for room in (0, 1, 2):
                    machine = one_move(column, (room, way))
                    self.assertEqual(checked(machine), machine)

    def test_letters(self):
        for letters in (0, 4, -1, True, False, "1", "", 1.0, None, (1,), [1]):
            with self.subTest(letters=letters):
                self.refuse((letters, (STILL,)))
        # Rooms of the length that such many letters would ask for.
        self.refuse((0, (("yes", "no"),)))
        self.refuse((4, (("yes",) * 6,)))
        self.refuse((-1, (("yes",),)))

    def test_rooms(self):
        for rooms in ([STILL], (), (STILL,) * 13, None, 1, "a", {0: STILL}, STILL):
            with self.subTest(rooms=rooms):
                self.refuse((1, rooms))

    def test_a_room(self):
        for room in (list(STILL), STILL + ("no",), STILL[:2], (), None, 3, "yes", True):
            with self.subTest(room=room):
                self.refuse((1, (room,)))
                self.refuse((1, (STILL, room)))
                self.refuse((1, (room, STILL)))

    def test_a_move(self):
        wrong = ["", "y", "Yes", "YES", "round", "no ", b"yes", None, True, False, 0, 1, -1, 1.0, (), (0,), [],
                 [0, 1], [0, -1], {0: 1}, {"yes"}, ["yes"], ("yes",), ("yes", 1), (0, "yes")]
        for way in (1, -1):
            wrong += [(3, way), (12, way), (-1, way), (True, way), (False, way), ("0", way), (None, way), (0.0, way),
                      (0, way, way), (0, way, None), (0, (way,)), ((0,), way)]
        wrong += [(0, way) for way in (0, 2, -2, True, False, None, "1", 1.0, -1.0)]
        for column in range(4):
            for move in wrong:
                with self.subTest(column=column, move=move):
                    self.refuse(one_move(column, move))

    def test_no_move_leads_beyond_a_wall(self):
        for letters in (1, 2, 3):
            self.refuse(one_move(0, (0, -1), letters))
            self.refuse(one_move(letters + 1, (0, 1), letters))

    def test_the_pair(self):
        for thing in ((), (1,), (1, (STILL,), ()), (1, (STILL,), 1), [1, (STILL,)], ((STILL,), 1)):
            with self.subTest(thing=thing):
                self.refuse(thing)

    def test_things_of_any_kind(self):
        for thing in odd_things():
            self.refuse(thing)
            self.refuse((1, thing))
            self.refuse((1, (thing,)))
            self.refuse((thing, (("0", "0"),)))

    def test_what_is_refused_is_not_changed(self):
        room = ["yes", "no", "yes"]
        rooms = [room]
        thing = [1, rooms]
        self.refuse(thing)
        self.refuse((1, rooms))
        self.refuse((1, (room,)))
        self.assertEqual((thing, rooms, room), ([1, [room]], [room], ["yes", "no", "yes"]))


def trail(machine, word):
    """Rooms and places in which the head stands, up to the first that comes again, and how it ended."""
    stood = []
    here = (0, 0)
    while here not in stood:
        stood.append(here)
        room, place = here
        if place == 0:
            move = machine[1][room][0]
        elif place <= len(word):
            move = machine[1][room][1:-1][word[place - 1]]
        else:
            move = machine[1][room][-1]
        if move in ("yes", "no"):
            return stood, move, None
        here = (move[0], place + move[1])
    return stood, "round", stood.index(here)


class Runs(unittest.TestCase):

    def test_an_end_at_once_is_one_step(self):
        self.assertEqual(run((1, (("yes", "no", "no"),)), ()), ("yes", 1))
        self.assertEqual(run((1, (("no", "yes", "yes"),)), (0, 0)), ("no", 1))

    def test_ends_at_a_letter_and_at_the_right_wall(self):
        self.assertEqual(run(BACK_AT_ONE, ()), ("no", 2))
        self.assertEqual(run(BACK_AT_ONE, (0, 0, 0)), ("no", 5))
        self.assertEqual(run(BACK_AT_ONE, (0, 1)), ("yes", 4))
        self.assertEqual(run(BACK_AT_ONE, (0, 0, 1, 1, 0)), ("yes", 5))

    def test_each_letter_has_its_move(self):
        machine = (3, (((0, 1), "yes", "no", (0, 1), (1, -1)), ("no", "yes", "no", "yes", "no")))
        self.assertEqual(run(machine, (0,)), ("yes", 2))
        self.assertEqual(run(machine, (1,)), ("no", 2))
        self.assertEqual(run(machine, (2,)), ("yes", 4))
        self.assertEqual(run(machine, (2, 1)), ("no", 3))

    def test_to_and_fro(self):
        # To the right wall, back to the left one, and to the right one again.
        for many in range(6):
            self.assertEqual(run(SHUTTLE, (0,) * many), ("yes", 3 * (many + 1) + 1))

    def test_round_between_the_walls(self):
        # Room 0 at the left wall is not come to again, room 0 one place on is.
        for many in range(6):
            self.assertEqual(run(NEVER_ENDS, (0,) * many), ("round", 1, 2 * (many + 1)))

    def test_round_from_the_first_step(self):
        machine = (1, (((1, 1), (0, -1), (0, -1)), ((0, 1), (1, 1), (0, -1))))
        for many in range(6):
            self.assertEqual(run(machine, (0,) * many), ("round", 0, 2 * (many + 1)))

    def test_round_after_some_steps(self):
        self.assertEqual(run(BACK_AT_ONE, (1,)), ("round", 2, 2))
        self.assertEqual(run(BACK_AT_ONE, (1, 0, 1)), ("round", 2, 2))

    def test_round_on_two_letters(self):
        machine = (2, (((0, 1), (0, 1), (0, -1), "no"),))
        self.assertEqual(run(machine, (0, 0, 1)), ("round", 2, 2))
        self.assertEqual(run(machine, (1, 0, 0)), ("round", 0, 2))

    def test_the_same_place_in_another_room_is_no_round(self):
        machine = (1, (((0, 1), (1, -1), "no"), ((2, 1), "no", "no"), ("no", "yes", "no")))
        self.assertEqual(run(machine, (0,)), ("yes", 4))

    def test_against_a_plain_trail(self):
        fates = {}
        for machine in some_machines():
            for word in words_up_to(machine[0], 5 if machine[0] == 1 else 3):
                stood, fate, first = trail(machine, word)
                due = (fate, len(stood)) if first is None else (fate, first, len(stood) - first)
                self.assertEqual(run(machine, word), due)
                self.assertIs(type(run(machine, word)), tuple)
                fates[fate] = True
        self.assertEqual(sorted(fates), ["no", "round", "yes"])

    def test_long_words(self):
        self.assertEqual(run(SHUTTLE, (0,) * 20000), ("yes", 60004))
        self.assertEqual(run(NEVER_ENDS, (0,) * 20000), ("round", 1, 40002))

    def test_what_is_no_word(self):
        wrong = [[], [0], None, "", "0", 0, True, {}, (2,), (0, 1, 2), (-1,), (0, -1), (True,), (0, False), ("0",),
                 (None,), (0.0,), ((0,),), ([],), set(), range(1), 10 ** 30]
        for word in wrong:
            with self.subTest(word=word):
                with self.assertRaises(NoWord):
                    run(BACK_AT_ONE, word)
        # Also where the head would never come to the letter.
        with self.assertRaises(NoWord):
            run((1, (("yes", "no", "no"),)), (0, 0, 1))

    def test_letters_of_words(self):
        for letters in (1, 2, 3):
            machine = (letters, (((0, 1),) * (letters + 1) + ("yes",),))
            self.assertEqual(run(machine, (letters - 1, 0)), ("yes", 4))
            with self.assertRaises(NoWord):
                run(machine, (0, letters))

    def test_things_of_any_kind(self):
        for thing in odd_things():
            with self.assertRaises(NoWord):
                run(SHUTTLE, thing)
            with self.assertRaises(NoWord):
                run(SHUTTLE, (thing, thing, -1))
            with self.assertRaises(NoMachine):
                run(thing, ())

    def test_the_machine_is_refused_ahead_of_the_word(self):
        for thing in odd_things():
            with self.assertRaises(NoMachine):
                run(thing, thing)
            with self.assertRaises(NoMachine):
                run((4, (STILL,)), thing)

    def test_equal_things_give_equal_answers(self):
        again = tuple([2, tuple([tuple(list(room)) for room in BACK_AT_ONE[1]])])
        for word in words_up_to(2, 4):
            self.assertEqual(run(BACK_AT_ONE, word), run(again, tuple(list(word))))


if __name__ == "__main__":
    unittest.main()
