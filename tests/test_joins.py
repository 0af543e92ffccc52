import unittest

from backhead.errors import NoReader, Unlike
from backhead.joins import both, contrary, either, less
from backhead.readers import checked_reader, least, reader_of, takes
from samples import (BACK_AT_ONE, Dice, every, nothing, odd_things, ring, some_reader, some_readers, unlike_readers,
                     words_up_to)
from test_readers import doubled, first_words, shuffled, told_apart

JOINS = ((both, lambda a, b: a and b), (either, lambda a, b: a or b), (less, lambda a, b: a and not b))

# Words of two letters: those that end in 1, those with even many 0s, those that hold 0 and right behind it 1.
ENDS_IN_ONE = (2, ((0, 1), (0, 1)), (1,))
EVEN_ZEROS = (2, ((1, 0), (0, 1)), (0,))
HOLDS_ZERO_ONE = (2, ((1, 0), (1, 2), (2, 2)), (2,))

NO_READERS = [(1, ((1,),), ()), (1, ((0,),), (0, 0)), (1, ((0,),) * 2001, ()), (4, ((0, 0, 0, 0),), ()), (1, ((0,),))]


def some_pairs():
    dice = Dice(21)
    found = []
    for letters in (1, 2, 3):
        readers = [some_reader(dice, letters, stands, chance) for stands in (1, 2, 3, 5, 8) for chance in (1, 2, 4)]
        readers += [every(letters), nothing(letters)]
        found += [(readers[dice.below(len(readers))], readers[dice.below(len(readers))]) for k in range(40)]
        found += [(reader, reader) for reader in readers[:6]]
        found += [(reader, other) for reader in readers for other in (every(letters), nothing(letters))]
        found += [(other, reader) for reader in readers for other in (every(letters), nothing(letters))]
    return found


class TellsLeast(unittest.TestCase):

    def check_least(self, small):
        """As few stands as any: each is reached, each two are told apart; numbered in order of the first words."""
        self.assertEqual(checked_reader(small), small)
        self.assertEqual(list(first_words(small)), list(range(len(small[1]))))
        self.assertEqual(len(told_apart(small)), len(small[1]) * (len(small[1]) - 1))


class Joins(TellsLeast):

    def test_written_out(self):
        self.assertEqual(both(ENDS_IN_ONE, EVEN_ZEROS), (2, ((1, 2), (0, 1), (1, 2)), (2,)))
        self.assertEqual(either(ENDS_IN_ONE, EVEN_ZEROS), (2, ((1, 0), (0, 2), (0, 2)), (0, 2)))
        self.assertEqual(less(ENDS_IN_ONE, EVEN_ZEROS), (2, ((1, 0), (0, 2), (0, 2)), (2,)))
        self.assertEqual(less(EVEN_ZEROS, ENDS_IN_ONE), (2, ((1, 2), (0, 1), (1, 2)), (0,)))

    def test_one_letter(self):
        self.assertEqual(both(ring(2), ring(3)), ring(6))
        self.assertEqual(either(ring(2), ring(3)), (1, ((1,), (2,), (3,), (4,), (5,), (0,)), (1, 2, 3, 5)))
        self.assertEqual(less(ring(2), ring(3)), (1, ((1,), (2,), (3,), (4,), (5,), (0,)), (1, 3)))
        self.assertEqual(both(ring(4), ring(2)), ring(4))
        self.assertEqual(either(ring(4), ring(2)), ring(2))
        self.assertEqual(less(ring(4), ring(2)), nothing(1))

    def test_held_against_takes(self):
        for one, other in some_pairs():
            words = words_up_to(one[0], (12, 6, 4)[one[0] - 1])
            for join, due in JOINS:
                told = join(one, other)
                for word in words:
                    self.assertIs(takes(told, word), bool(due(takes(one, word), takes(other, word))))

    def test_the_least_reader_is_told(self):
        for one, other in some_pairs():
            for join, due in JOINS:
                told = join(one, other)
                self.check_least(told)
                self.assertEqual(least(told), told)
                self.assertEqual(told[0], one[0])

    def test_just_the_same_words(self):
        # Walked side by side, so of words of any length.
        for one, other in some_pairs():
            for join, due in JOINS:
                told = join(one, other)
                met = [(0, 0, 0)]
                for a, b, c in met:
                    self.assertEqual(bool(due(a in one[2], b in other[2])), c in told[2])
                    for letter in range(one[0]):
                        goal = (one[1][a][letter], other[1][b][letter], told[1][c][letter])
                        if goal not in met:
                            met.append(goal)

    def test_no_word_and_each_word(self):
        for letters in (1, 2, 3):
            full, none = every(letters), nothing(letters)
            for one, other in ((full, full), (full, none), (none, full), (none, none)):
                for join, due in JOINS:
                    self.assertEqual(join(one, other), full if due(one == full, other == full) else none)
        for reader in some_readers():
            full, none, small = every(reader[0]), nothing(reader[0]), least(reader)
            self.assertEqual((both(reader, full), both(full, reader)), (small, small))
            self.assertEqual((both(reader, none), both(none, reader)), (none, none))
            self.assertEqual((either(reader, full), either(full, reader)), (full, full))
            self.assertEqual((either(reader, none), either(none, reader)), (small, small))
            self.assertEqual((less(reader, none), less(reader, full)), (small, none))
            self.assertEqual((less(none, reader), less(full, reader)), (none, contrary(reader)))

    def test_with_itself(self):
        for reader in some_readers():
            self.assertEqual(both(reader, reader), least(reader))
            self.assertEqual(either(reader, reader), least(reader))
            self.assertEqual(less(reader, reader), nothing(reader[0]))

    def test_it_is_one_alone(self):
        dice = Dice(22)
        for one, other in some_pairs()[::3]:
            for join, due in JOINS:
                self.assertEqual(join(shuffled(doubled(one), dice), shuffled(other, dice)), join(one, other))

    def test_many_stands(self):
        self.assertEqual(both(ring(2000), ring(1000)), ring(2000))
        self.assertEqual(either(ring(2000), ring(1000)), ring(1000))
        self.assertEqual(less(ring(2000), ring(1000)), nothing(1))
        # More stands than a reader that is handed in may have: told whole all the same.
        self.assertEqual(both(ring(51), ring(50)), ring(2550))

    def test_fates_of_a_machine(self):
        fates = [reader_of(BACK_AT_ONE, fate) for fate in ("yes", "no", "round")]
        self.assertEqual(either(either(fates[0], fates[1]), fates[2]), every(2))
        self.assertEqual(both(fates[0], fates[1]), nothing(2))
        self.assertEqual(less(contrary(fates[0]), fates[1]), fates[2])

    def test_refusals(self):
        for join, due in JOINS:
            for thing in odd_things() + NO_READERS:
                for pair in ((thing, ring(2)), (ring(2), thing), (thing, thing)):
                    with self.assertRaises(NoReader):
                        join(*pair)

    def test_unlike_many_letters(self):
        for join, due in JOINS:
            for one, other in unlike_readers():
                with self.assertRaises(Unlike):
                    join(one, other)

    def test_no_reader_ahead_of_unlike(self):
        for join, due in JOINS:
            for wrong in ((1, ((1,),), ()), (1, ((0,),), (1,)), (1, [(0,)], ()), (1, ((0,),) * 2001, ()), (4, (), ())):
                for other in (every(2), every(3)):
                    with self.assertRaises(NoReader):
                        join(wrong, other)
                    with self.assertRaises(NoReader):
                        join(other, wrong)


class Contrary(TellsLeast):

    def test_written_out(self):
        self.assertEqual(contrary(ENDS_IN_ONE), (2, ((0, 1), (0, 1)), (0,)))
        self.assertEqual(contrary(HOLDS_ZERO_ONE), (2, ((1, 0), (1, 2), (2, 2)), (0, 1)))
        self.assertEqual(contrary(ring(3)), (1, ((1,), (2,), (0,)), (0, 1)))

    def test_no_word_and_each_word(self):
        for letters in (1, 2, 3):
            self.assertEqual(contrary(every(letters)), nothing(letters))
            self.assertEqual(contrary(nothing(letters)), every(letters))
        self.assertEqual(contrary((2, ((1, 1), (0, 0)), (0, 1))), nothing(2))

    def test_held_against_takes(self):
        for reader in some_readers():
            told = contrary(reader)
            self.check_least(told)
            for word in words_up_to(reader[0], (12, 6, 4)[reader[0] - 1]):
                self.assertIs(takes(told, word), not takes(reader, word))

    def test_twice(self):
        for reader in some_readers():
            self.assertEqual(contrary(contrary(reader)), least(reader))
            self.assertEqual(both(reader, contrary(reader)), nothing(reader[0]))
            self.assertEqual(either(reader, contrary(reader)), every(reader[0]))

    def test_many_stands(self):
        self.assertEqual(contrary(ring(2000)), ring(2000)[:2] + (tuple(range(1999)),))

    def test_refusals(self):
        for thing in odd_things() + NO_READERS:
            with self.assertRaises(NoReader):
                contrary(thing)


if __name__ == "__main__":
    unittest.main()
