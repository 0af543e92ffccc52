import unittest

from backhead.doings import doings
from backhead.errors import NoFate, NoMachine, NoReader, NoWord
from backhead.machines import run
from backhead.readers import checked_reader, least, reader_of, takes
from samples import (BACK_AT_ONE, NEVER_ENDS, SHUTTLE, Dice, odd_things, ring, some_machines, some_reader,
                     some_readers, words_up_to)
from test_doings import sweeper

FATES = ("yes", "no", "round")
EVEN = (1, ((1,), (0,)), (0,))


class CheckedReader(unittest.TestCase):

    def refuse(self, thing):
        with self.assertRaises(NoReader):
            checked_reader(thing)

    def test_few_and_many(self):
        for letters in (1, 2, 3):
            for stands in (1, 2, 1999, 2000):
                rows = ((stands - 1,) * letters,) * stands
                for good in ((), (0,), (stands - 1,), tuple(range(stands))):
                    reader = (letters, rows, good)
                    self.assertEqual(checked_reader(reader), reader)

    def test_readers_are_told(self):
        for reader in some_readers():
            self.assertEqual(checked_reader(reader), reader)

    def test_letters(self):
        for letters in (0, 4, -1, 2, True, False, "1", 1.0, None, (1,)):
            with self.subTest(letters=letters):
                self.refuse((letters, ((0,),), ()))
        self.refuse((0, ((),), ()))
        self.refuse((4, ((0, 0, 0, 0),), ()))

    def test_rows(self):
        self.refuse((1, ((0,),) * 2001, ()))
        for rows in ((), [(0,)], None, 1, "a", {0: (0,)}, (0,), range(1)):
            with self.subTest(rows=rows):
                self.refuse((1, rows, ()))

    def test_a_row(self):
        wrong = [[0, 0], (), (0,), (0, 0, 0), (2, 0), (0, 2), (-1, 0), (0, -1), (True, 0), (0, False), ("0", 0),
                 (None, 0), (0.0, 0), ((0,), 0), None, 0, "ab", {0: 0, 1: 0}, range(2)]
        for row in wrong:
            with self.subTest(row=row):
                self.refuse((2, (row, (0, 1)), ()))
                self.refuse((2, ((0, 1), row), ()))

    def test_good(self):
        wrong = [[], [0], None, 0, "", "0", {}, {0: 0}, range(1), (3,), (0, 3), (-1,), (-1, 0), (True,), (False,),
                 ("0",), (None,), (0.0,), (1, 0), (0, 0), (0, 1, 1), (0, 2, 1), (2, 2), ((0,),)]
        for good in wrong:
            with self.subTest(good=good):
                self.refuse((1, ((1,), (2,), (0,)), good))

    def test_the_three(self):
        for thing in ((), (1,), (1, ((0,),)), (1, ((0,),), (), ()), [1, ((0,),), ()], (((0,),), 1, ())):
            with self.subTest(thing=thing):
                self.refuse(thing)

    def test_things_of_any_kind(self):
        for thing in odd_things():
            self.refuse(thing)
            self.refuse((1, thing, ()))
            self.refuse((1, (thing,), ()))
            self.refuse((1, ((thing,), (2,)), ()))
            self.refuse((1, ((0,),), (0, thing)))
            self.refuse((1, ((0,),), [thing]))
            self.refuse((thing, ((0, 0, 0, 0),), ()))

    def test_what_is_refused_is_not_changed(self):
        good = [1, 0]
        rows = [[1], [0]]
        self.refuse((1, rows, good))
        self.assertEqual((rows, good), ([[1], [0]], [1, 0]))


class Takes(unittest.TestCase):

    def test_even_many(self):
        for many in range(7):
            self.assertIs(takes(EVEN, (0,) * many), many % 2 == 0)

    def test_each_letter_has_its_stand(self):
        reader = (3, ((1, 2, 0), (1, 1, 1), (0, 0, 2)), (2,))
        for word, due in (((), False), ((0,), False), ((1,), True), ((2,), False), ((2, 2, 1), True), ((1, 2), True),
                          ((1, 0), False), ((0, 1), False), ((1, 1, 1), True)):
            self.assertIs(takes(reader, word), due)

    def test_none_and_all(self):
        for word in words_up_to(2, 4):
            self.assertIs(takes((2, ((0, 1), (1, 0)), ()), word), False)
            self.assertIs(takes((2, ((0, 1), (1, 0)), (0, 1)), word), True)

    def test_many_stands(self):
        self.assertIs(takes(ring(2000), (0,) * 1999), True)
        self.assertIs(takes(ring(2000), (0,) * 2000), False)
        self.assertIs(takes(ring(2000), (0,) * 9999), True)

    def test_what_is_no_word(self):
        for word in ([], [0], None, "", 0, True, (1,), (-1,), (0, True), (False,), ("0",), ((),), {}, (0, None), (0.0,)):
            with self.subTest(word=word):
                with self.assertRaises(NoWord):
                    takes(EVEN, word)

    def test_things_of_any_kind(self):
        for thing in odd_things():
            with self.assertRaises(NoReader):
                takes(thing, ())
            with self.assertRaises(NoReader):
                takes(thing, thing)
            with self.assertRaises(NoReader):
                takes((1, ((0,),), (1,)), thing)
            with self.assertRaises(NoWord):
                takes(EVEN, thing)


def told_apart(reader):
    """Pairs of stands that some word tells apart, found by marking until nothing is added."""
    letters, rows, good = reader
    stands = range(len(rows))
    apart = {(a, b) for a in stands for b in stands if (a in good) != (b in good)}
    while True:
        more = {(a, b) for a in stands for b in stands if (a, b) not in apart
                and any((rows[a][letter], rows[b][letter]) in apart for letter in range(letters))}
        if not more:
            return apart
        apart |= more


def first_words(reader):
    """Of each stand that is reached the first word that leads to it, in order of these words."""
    letters, rows, good = reader
    firsts = {0: ()}
    last = [0]
    while last:
        fresh = []
        for stand in last:
            for letter in range(letters):
                goal = rows[stand][letter]
                if goal not in firsts:
                    firsts[goal] = firsts[stand] + (letter,)
                    fresh.append(goal)
        last = fresh
    return firsts


def shuffled(reader, dice):
    """The same reader with its stands in another order, stand 0 staying."""
    letters, rows, good = reader
    names = list(range(len(rows)))
    for k in range(len(names) - 1, 1, -1):
        other = 1 + dice.below(k)
        names[k], names[other] = names[other], names[k]
    places = {old: new for new, old in enumerate(names)}
    return (letters, tuple(tuple(places[goal] for goal in rows[old]) for old in names),
            tuple(sorted(places[old] for old in good)))


def doubled(reader):
    """Takes the same words with twice the stands, each going over to the other half."""
    letters, rows, good = reader
    count = len(rows)
    return (letters, tuple(tuple(goal + count for goal in row) for row in rows) + rows,
            good + tuple(stand + count for stand in good))


class Least(unittest.TestCase):

    def check_least(self, small):
        """As few stands as any: each is reached, each two are told apart; numbered in order."""
        self.assertEqual(checked_reader(small), small)
        firsts = first_words(small)
        self.assertEqual(list(firsts), list(range(len(small[1]))))
        count = len(small[1])
        self.assertEqual(len(told_apart(small)), count * (count - 1))

    def test_some_readers(self):
        self.assertEqual(least((1, ((0,),), ())), (1, ((0,),), ()))
        self.assertEqual(least((1, ((1,), (0,)), (0, 1))), (1, ((0,),), (0,)))
        self.assertEqual(least((1, ((1,), (0,)), ())), (1, ((0,),), ()))
        self.assertEqual(least(EVEN), EVEN)
        self.assertEqual(least((1, ((1,), (2,), (3,), (0,)), (0, 2))), EVEN)

    def test_stands_never_reached_fall_away(self):
        self.assertEqual(least((1, ((0,), (2,), (1,)), (1,))), (1, ((0,),), ()))
        self.assertEqual(least((2, ((2, 0), (0, 2), (2, 0)), (1, 2))), (2, ((1, 0), (1, 0)), (1,)))

    def test_numbers_follow_the_first_words(self):
        # Stand 2 is led to by the word of 0, stand 1 by the word of 1.
        reader = (2, ((2, 1), (1, 1), (2, 0)), (1,))
        self.assertEqual(least(reader), (2, ((1, 2), (1, 0), (2, 2)), (2,)))

    def test_against_all_pairs(self):
        for reader in some_readers():
            small = least(reader)
            self.check_least(small)
            self.assertLessEqual(len(small[1]), len(reader[1]))
            self.assertEqual(small[0], reader[0])
            for word in words_up_to(reader[0], (12, 6, 4)[reader[0] - 1]):
                self.assertIs(takes(small, word), takes(reader, word))

    def test_parts_that_fall_apart_again_and_again(self):
        # Stands that are told apart only through halves of parts which were themselves still to be looked at.
        first = (2, ((1, 4), (4, 2), (6, 2), (4, 6), (2, 5), (2, 6), (2, 3)), (0, 1, 3, 4, 5, 6))
        second = (2, ((5, 6), (4, 7), (5, 2), (1, 8), (1, 3), (4, 2), (3, 5), (6, 3), (7, 7)), (0, 1, 2, 3, 4, 6, 8))
        third = (3, ((6, 1, 8), (7, 9, 7), (8, 0, 2), (6, 3, 2), (9, 8, 5), (9, 4, 5), (4, 7, 7), (7, 2, 4), (6, 8, 2),
                     (3, 6, 4)), (0, 1, 2, 3, 4, 5, 8, 9))
        for reader, count in ((first, 7), (second, 9), (third, 9)):
            self.assertEqual(len(least(reader)[1]), count)
            self.check_least(least(reader))

    def test_as_few_as_any(self):
        dice = Dice(6)
        for k in range(600):
            reader = some_reader(dice, 1 + k % 3, 4 + dice.below(9), 2 + dice.below(4))
            seen = list(first_words(reader))
            apart = told_apart(reader)
            due = [b for k, b in enumerate(seen) if all((a, b) in apart for a in seen[:k])]
            self.assertEqual(len(least(reader)[1]), len(due))

    def test_just_the_same_words(self):
        # Walked side by side, so of words of any length.
        for reader in some_readers():
            small = least(reader)
            pairs = [(0, 0)]
            for stand, other in pairs:
                self.assertEqual(stand in reader[2], other in small[2])
                for letter in range(reader[0]):
                    goal = (reader[1][stand][letter], small[1][other][letter])
                    if goal not in pairs:
                        pairs.append(goal)

    def test_the_least_of_the_least(self):
        for reader in some_readers():
            small = least(reader)
            self.assertEqual(least(small), small)

    def test_it_is_one_alone(self):
        dice = Dice(3)
        for reader in some_readers():
            small = least(reader)
            self.assertEqual(least(shuffled(reader, dice)), small)
            self.assertEqual(least(doubled(reader)), small)
            self.assertEqual(least(shuffled(doubled(doubled(reader)), dice)), small)

    def test_many_stands(self):
        self.assertEqual(least(ring(2000)), ring(2000))
        self.assertEqual(least(doubled(ring(1000))), ring(1000))
        count = 2000
        ladder = (3, tuple((min(k + 1, count - 1), k, 0) for k in range(count)), (count - 1,))
        self.assertEqual(least(ladder), ladder)
        self.assertEqual(least(ladder[:2] + ((),)), (3, ((0, 0, 0),), ()))
        big = some_reader(Dice(8), 2, 2000, 2)
        small = least(big)
        self.assertEqual(least(small), small)

    def test_refusals(self):
        for thing in odd_things() + [(1, ((1,),), ()), (1, ((0,),), (0, 0)), (1, ((0,),) * 2001, ())]:
            with self.assertRaises(NoReader):
                least(thing)


class ReaderOf(unittest.TestCase):

    def test_some_machines(self):
        self.assertEqual(reader_of(BACK_AT_ONE, "yes"), (2, ((1, 2), (1, 3), (2, 2), (3, 3)), (3,)))
        self.assertEqual(reader_of(BACK_AT_ONE, "no"), (2, ((0, 1), (1, 1)), (0,)))
        self.assertEqual(reader_of(BACK_AT_ONE, "round"), (2, ((1, 2), (1, 1), (2, 2)), (2,)))

    def test_all_words_or_none(self):
        every = (1, ((0,),), (0,))
        none = (1, ((0,),), ())
        self.assertEqual([reader_of(SHUTTLE, fate) for fate in FATES], [every, none, none])
        self.assertEqual([reader_of(NEVER_ENDS, fate) for fate in FATES], [none, none, every])
        self.assertEqual([reader_of((1, (("no", "yes", "yes"),)), fate) for fate in FATES], [none, every, none])

    def test_going_round_at_the_right_wall(self):
        # On the last letter 1 it goes to and fro at the right wall, on the last letter 0 it says no.
        machine = (2, (((0, 1), (1, 1), (0, 1), (0, -1)), ("yes", (1, 1), (0, 1), "no")))
        self.assertEqual(reader_of(machine, "round"), (2, ((1, 0), (1, 0)), (0,)))
        self.assertEqual(reader_of(machine, "no"), (2, ((1, 0), (1, 0)), (1,)))
        self.assertEqual(reader_of(machine, "yes"), (2, ((0, 0),), ()))

    def test_held_against_run(self):
        for machine in some_machines():
            readers = [reader_of(machine, fate) for fate in FATES]
            for word in words_up_to(machine[0], (9, 5, 4)[machine[0] - 1]):
                due = run(machine, word)[0]
                self.assertEqual([fate for fate, reader in zip(FATES, readers) if takes(reader, word)], [due])

    def test_they_are_least(self):
        for machine in some_machines():
            for fate in FATES:
                reader = reader_of(machine, fate)
                self.assertEqual(least(reader), reader)
                self.assertEqual(reader[0], machine[0])
                self.assertLessEqual(len(reader[1]), len(doings(machine)))

    def test_many_things_done(self):
        # More stands than a reader that is handed in may have: told whole all the same.
        machine = sweeper()
        dice = Dice(4)
        words = [tuple(dice.below(3) for k in range(length)) for length in range(60)]
        for fate in ("yes", "no"):
            letters, rows, good = reader_of(machine, fate)
            self.assertGreater(len(rows), 2000)
            for word in words:
                stand = 0
                for letter in word:
                    stand = rows[stand][letter]
                self.assertEqual(stand in good, run(machine, word)[0] == fate)

    def test_what_is_no_fate(self):
        for fate in ("", "Yes", "yes ", "rounds", "NO", b"yes", None, True, 0, ["yes"], ("yes",), {"yes"}, "y"):
            with self.subTest(fate=fate):
                with self.assertRaises(NoFate):
                    reader_of(SHUTTLE, fate)

    def test_the_machine_is_refused_first(self):
        for thing in odd_things():
            with self.assertRaises(NoFate):
                reader_of(SHUTTLE, thing)
            with self.assertRaises(NoMachine):
                reader_of(thing, thing)
            with self.assertRaises(NoMachine):
                reader_of(thing, "yes")
            with self.assertRaises(NoMachine):
                reader_of((1, (("yes", "no"),)), "maybe")

    def test_equal_things_give_equal_answers(self):
        for fate in FATES:
            again = (2, tuple(tuple(list(room)) for room in BACK_AT_ONE[1]))
            self.assertEqual(reader_of(BACK_AT_ONE, fate), reader_of(again, "".join(list(fate))))


if __name__ == "__main__":
    unittest.main()
