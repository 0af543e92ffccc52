import unittest

from backhead.doings import doing, doings
from backhead.errors import NoMachine, NoWord
from backhead.machines import run
from samples import (BACK_AT_ONE, NEVER_ENDS, SHUTTLE, Dice, odd_things, some_machine, some_machines, words_of,
                     words_up_to)


def comes_of(machine, word, room, place):
    """What comes of this room at this place, the right end being free: step by step on the word itself."""
    stood = []
    while place <= len(word):
        if (room, place) in stood:
            return "round"
        stood.append((room, place))
        move = machine[1][room][0 if place == 0 else word[place - 1] + 1]
        if move in ("yes", "no"):
            return move
        room = move[0]
        place = place + move[1]
    return room


def does(machine, word):
    rooms = range(len(machine[1]))
    return (comes_of(machine, word, 0, 0),) + tuple(comes_of(machine, word, room, len(word)) for room in rooms)


class Doing(unittest.TestCase):

    def test_the_word_of_no_letter(self):
        self.assertEqual(doing(BACK_AT_ONE, ()), (0, 0, 1))
        self.assertEqual(doing(SHUTTLE, ()), (0, 0, 2, 2))
        self.assertEqual(doing(NEVER_ENDS, ()), (0, 0, 0))
        machine = (1, (((2, 1), "no", "no"), ("yes", "no", "no"), ("no", "yes", "yes"), ((1, 1), "no", "no")))
        self.assertEqual(doing(machine, ()), (2, 2, "yes", "no", 1))

    def test_some_words(self):
        self.assertEqual(doing(BACK_AT_ONE, (0,)), (0, 0, "yes"))
        self.assertEqual(doing(BACK_AT_ONE, (1,)), ("round", "round", "round"))
        self.assertEqual(doing(BACK_AT_ONE, (0, 1)), ("yes", "yes", "yes"))
        self.assertEqual(doing(BACK_AT_ONE, (1, 0)), ("round", 0, "yes"))
        self.assertEqual(doing(SHUTTLE, (0, 0)), (0, 0, 2, 2))

    def test_first_is_the_left_wall_then_the_last_letter(self):
        # From the left wall it goes on in room 1; at the last letter room 0 goes out in room 2.
        machine = (1, (((1, 1), (2, 1), "no"), ("no", (1, 1), "no"), ((0, 1), (0, -1), "no")))
        self.assertEqual(doing(machine, (0,)), (1, 2, 1, 1))
        self.assertEqual(doing(machine, (0, 0)), (1, 2, 1, "round"))

    def test_the_end_no(self):
        machine = (2, (((0, 1), "no", (1, -1), "yes"), ("no", (0, 1), "yes", "yes")))
        self.assertEqual(doing(machine, (0,)), ("no", "no", 0))
        self.assertEqual(doing(machine, (1,)), ("no", "no", "yes"))

    def test_the_right_wall_has_no_say(self):
        machine = (1, (((0, 1), (0, 1), "yes"),))
        other = (1, (((0, 1), (0, 1), (0, -1)),))
        for many in range(4):
            self.assertEqual(doing(machine, (0,) * many), (0, 0))
            self.assertEqual(doing(other, (0,) * many), (0, 0))

    def test_against_the_word_itself(self):
        kinds = {}
        for machine in some_machines():
            for word in words_up_to(machine[0], 6 if machine[0] == 1 else 3):
                done = doing(machine, word)
                self.assertEqual(done, does(machine, word))
                self.assertIs(type(done), tuple)
                kinds.update((end, True) for end in done if isinstance(end, str))
        self.assertEqual(sorted(kinds), ["no", "round", "yes"])

    def test_a_long_word(self):
        self.assertEqual(doing(SHUTTLE, (0,) * 20000), (0, 0, 2, 2))

    def test_refusals(self):
        for word in ([], [0], None, "", 0, True, (2,), (-1,), (0, True), ("0",), ((),), {}, (0, None)):
            with self.subTest(word=word):
                with self.assertRaises(NoWord):
                    doing(BACK_AT_ONE, word)
        for thing in odd_things():
            with self.assertRaises(NoMachine):
                doing(thing, ())
            with self.assertRaises(NoMachine):
                doing(thing, thing)
            with self.assertRaises(NoMachine):
                doing((1, (("yes", "no"),)), thing)
            with self.assertRaises(NoWord):
                doing(SHUTTLE, thing)


def sweeper():
    """Left through five rooms, right through four: its words do some thousand things."""
    right = ((1, 2, 3, 0), (1, 0, 2, 3), (0, 0, 2, 3))
    left = ((5, 6, 7, 8, 4), (5, 4, 6, 7, 8), (4, 5, 6, 8, 8))
    rooms = [((room, 1),) + tuple((right[letter][room], 1) for letter in range(3)) + (end,)
             for room, end in enumerate(("yes", "no", (4, -1), (6, -1)))]
    rooms += [((room % 4, 1),) + tuple((left[letter][room], -1) for letter in range(3)) + ("no",)
              for room in range(5)]
    return (3, tuple(rooms))


class Doings(unittest.TestCase):

    def test_all_of_a_small_machine(self):
        self.assertEqual(doings(BACK_AT_ONE), [
            ((), (0, 0, 1)),
            ((0,), (0, 0, "yes")),
            ((1,), ("round", "round", "round")),
            ((0, 1), ("yes", "yes", "yes")),
            ((1, 0), ("round", 0, "yes")),
            ((0, 1, 0), ("yes", 0, "yes")),
            ((1, 0, 1), ("round", "yes", "yes")),
        ])

    def test_one_thing_alone(self):
        self.assertEqual(doings((1, (((0, 1), (0, 1), "yes"),))), [((), (0, 0))])
        self.assertEqual(doings((3, (("yes", "yes", "yes", "yes", "no"),))), [((), ("yes", "yes"))])

    def test_each_thing_once_by_its_first_word(self):
        for machine in some_machines():
            found = doings(machine)
            self.assertIs(type(found), list)
            firsts = {}
            longest = len(found[-1][0])
            if machine[0] ** longest > 3000:
                continue
            for word in words_up_to(machine[0], longest + 1):
                firsts.setdefault(does(machine, word), word)
            self.assertEqual(found, [(word, done) for done, word in firsts.items()])

    def test_order_and_a_letter_more(self):
        for machine in some_machines() + [sweeper()]:
            found = doings(machine)
            words = [word for word, done in found]
            self.assertEqual(words, sorted(words, key=lambda word: (len(word), word)))
            all_done = {done: word for word, done in found}
            self.assertEqual(len(all_done), len(found))
            for word, done in found[:300]:
                self.assertEqual(doing(machine, word), done)
                for letter in range(machine[0]):
                    longer = word + (letter,)
                    first = all_done[doing(machine, longer)]
                    self.assertLessEqual((len(first), first), (len(longer), longer))

    def test_many_things(self):
        found = doings(sweeper())
        self.assertGreater(len(found), 2000)
        self.assertLessEqual(len(found), 20000)

    def test_words_that_do_the_same_have_the_same_fates(self):
        dice = Dice(11)
        for rooms in (2, 3, 4):
            machine = some_machine(dice, 2, rooms, 6)
            firsts = {done: word for word, done in doings(machine)}
            for word in words_of(2, 5):
                first = firsts[doing(machine, word)]
                for behind in words_up_to(2, 3):
                    self.assertEqual(run(machine, word + behind)[0], run(machine, first + behind)[0])

    def test_a_new_list_each_time(self):
        found = doings(BACK_AT_ONE)
        whole = list(found)
        found.clear()
        again = doings(BACK_AT_ONE)
        self.assertEqual(again, whole)
        again.append(None)
        self.assertEqual(doings(BACK_AT_ONE), whole)

    def test_refusals(self):
        for thing in odd_things() + [(1, (("yes", "no", (0, 1)),)), (2, (("yes", "no", "yes"),))]:
            with self.assertRaises(NoMachine):
                doings(thing)


if __name__ == "__main__":
    unittest.main()
