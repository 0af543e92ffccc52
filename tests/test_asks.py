import unittest

from backhead.asks import alike, first_word, how_many, within
from backhead.errors import NoReader, Unlike
from backhead.joins import both, contrary, less
from backhead.readers import least, takes
from samples import (Dice, every, nothing, odd_things, ring, some_reader, some_readers, unlike_readers, words_of,
                     words_up_to)
from test_joins import ENDS_IN_ONE, EVEN_ZEROS, HOLDS_ZERO_ONE, NO_READERS, some_pairs
from test_readers import doubled, shuffled

EVEN = (1, ((1,), (0,)), (0,))


def long_enough(one, other):
    """All words among which a first one that is asked for must be, if there is any; None if too many."""
    longest = len(least(one)[1]) * len(least(other)[1]) - 1
    if sum(one[0] ** length for length in range(longest + 1)) > 5000:
        return None
    return words_up_to(one[0], longest)


def tree(letters, depth, good):
    """Reads words of that many letters or fewer each into a stand of its own, and takes those of the good ones."""
    words = words_up_to(letters, depth)
    places = {word: place for place, word in enumerate(words)}
    sink = len(words)
    rows = tuple(tuple(places.get(word + (letter,), sink) for letter in range(letters)) for word in words)
    return (letters, rows + ((sink,) * letters,), tuple(sorted(places[word] for word in good)))


class Alike(unittest.TestCase):

    def test_alike(self):
        dice = Dice(31)
        self.assertIsNone(alike(EVEN, (1, ((1,), (2,), (3,), (0,)), (0, 2))))
        for reader in some_readers():
            for other in (reader, least(reader), doubled(reader), shuffled(doubled(reader), dice)):
                self.assertIsNone(alike(reader, other))
                self.assertIsNone(alike(other, reader))

    def test_against_the_contrary_no_letter_is_needed(self):
        for reader in some_readers():
            self.assertEqual(alike(reader, contrary(reader)), ())
            self.assertEqual(alike(contrary(reader), reader), ())

    def test_some_words(self):
        self.assertEqual(alike(ENDS_IN_ONE, EVEN_ZEROS), ())
        self.assertEqual(alike(ENDS_IN_ONE, HOLDS_ZERO_ONE), (1,))
        self.assertEqual(alike(HOLDS_ZERO_ONE, nothing(2)), (0, 1))
        self.assertEqual(alike(nothing(2), HOLDS_ZERO_ONE), (0, 1))
        self.assertEqual(alike(ring(2), ring(4)), (0,))
        self.assertEqual(alike(ring(4), ring(5)), (0, 0, 0))

    def test_the_first_in_order_not_in_the_order_of_tuples(self):
        self.assertEqual(alike(tree(2, 3, [(0, 0, 0), (1, 1)]), nothing(2)), (1, 1))
        self.assertEqual(alike(tree(3, 2, [(2,), (0, 0)]), nothing(3)), (2,))
        self.assertEqual(alike(tree(3, 2, [(2, 0), (1, 2)]), nothing(3)), (1, 2))
        self.assertEqual(alike(tree(3, 2, [(2, 1), (2, 0)]), tree(3, 2, [(2, 1)])), (2, 0))

    def test_each_word_as_the_only_difference(self):
        for letters, depth in ((1, 6), (2, 3), (3, 2)):
            words = words_up_to(letters, depth)
            for word in words:
                self.assertEqual(alike(tree(letters, depth, words), tree(letters, depth, set(words) - {word})), word)
                self.assertEqual(alike(nothing(letters), tree(letters, depth, [word])), word)

    def test_against_all_words(self):
        told = 0
        for one, other in some_pairs():
            words = long_enough(one, other)
            if words is not None:
                due = [word for word in words if takes(one, word) != takes(other, word)]
                self.assertEqual(alike(one, other), due[0] if due else None)
                told += 1
        self.assertGreater(told, 60)

    def test_nothing_ahead_of_it_differs(self):
        dice = Dice(32)
        for k in range(200):
            one = some_reader(dice, 1 + k % 3, 3 + dice.below(10), 2)
            # The same but for one stand, so that they often differ only late.
            change = len(one[1]) - 1
            other = one[:2] + (tuple(sorted(set(one[2]) ^ {change})),)
            word = alike(one, other)
            if word is not None and one[0] ** len(word) < 3000:
                self.assertNotEqual(takes(one, word), takes(other, word))
                for ahead in words_up_to(one[0], len(word)):
                    if ahead == word:
                        break
                    self.assertEqual(takes(one, ahead), takes(other, ahead))

    def test_many_stands(self):
        self.assertEqual(alike(ring(2000), ring(1999)), (0,) * 1998)
        self.assertEqual(alike(ring(2000), nothing(1)), (0,) * 1999)
        self.assertIsNone(alike(doubled(ring(1000)), ring(1000)))
        big = some_reader(Dice(33), 3, 2000, 2)
        self.assertIsNone(alike(big, least(big)))


class Within(unittest.TestCase):

    def test_within(self):
        self.assertIsNone(within(ring(4), ring(2)))
        self.assertIsNone(within(both(ENDS_IN_ONE, EVEN_ZEROS), EVEN_ZEROS))
        for reader in some_readers():
            self.assertIsNone(within(reader, reader))
            self.assertIsNone(within(reader, doubled(reader)))
            self.assertIsNone(within(reader, every(reader[0])))
            self.assertIsNone(within(nothing(reader[0]), reader))

    def test_not_within(self):
        self.assertEqual(within(ring(2), ring(4)), (0,))
        self.assertEqual(within(ENDS_IN_ONE, EVEN_ZEROS), (0, 1))
        self.assertEqual(within(EVEN_ZEROS, ENDS_IN_ONE), ())
        self.assertEqual(within(HOLDS_ZERO_ONE, ENDS_IN_ONE), (0, 1, 0))
        self.assertEqual(within(tree(2, 3, [(0, 0, 0), (1, 1), (0,)]), tree(2, 1, [(0,), (1,), ()])), (1, 1))

    def test_against_the_contrary(self):
        for reader in some_readers():
            self.assertEqual(within(reader, contrary(reader)), first_word(reader))
            self.assertEqual(within(contrary(reader), reader), first_word(contrary(reader)))

    def test_against_all_words(self):
        told = {}
        for one, other in some_pairs():
            words = long_enough(one, other)
            if words is not None:
                due = [word for word in words if takes(one, word) and not takes(other, word)]
                self.assertEqual(within(one, other), due[0] if due else None)
                told[len(due[0]) if due else None] = True
        for length in (None, 0, 1, 2):
            self.assertIn(length, told)

    def test_with_alike(self):
        for one, other in some_pairs():
            found = [word for word in (within(one, other), within(other, one)) if word is not None]
            self.assertEqual(alike(one, other), min(found, key=lambda word: (len(word), word), default=None))

    def test_many_stands(self):
        self.assertEqual(within(ring(2000), ring(1999)), (0,) * 1999)
        self.assertIsNone(within(ring(2000), ring(1000)))
        # The first word of both is as long as they are many pairs, less one.
        self.assertEqual(within(ring(60), contrary(ring(59))), (0,) * 3539)


class FirstWord(unittest.TestCase):

    def test_none_is_taken(self):
        for letters in (1, 2, 3):
            self.assertIsNone(first_word(nothing(letters)))
        self.assertIsNone(first_word((1, ((0,), (1,)), (1,))))
        self.assertIsNone(first_word((2, ((1, 1), (0, 0), (0, 1)), (2,))))

    def test_the_word_of_no_letter(self):
        for letters in (1, 2, 3):
            self.assertEqual(first_word(every(letters)), ())
        self.assertEqual(first_word(EVEN), ())

    def test_some_words(self):
        self.assertEqual(first_word(ENDS_IN_ONE), (1,))
        self.assertEqual(first_word(HOLDS_ZERO_ONE), (0, 1))
        self.assertEqual(first_word(ring(5)), (0, 0, 0, 0))
        self.assertEqual(first_word(tree(3, 2, [(2,), (0, 0)])), (2,))
        self.assertEqual(first_word(tree(3, 2, [(2, 0), (1, 2)])), (1, 2))
        self.assertEqual(first_word((2, ((2, 1), (1, 1), (2, 3), (3, 3)), (1, 3))), (1,))
        # The stand of the first word is not the good one of the lowest number.
        self.assertEqual(first_word((2, ((3, 2), (1, 1), (1, 2), (3, 3)), (1, 3))), (0,))

    def test_against_all_words(self):
        for reader in some_readers():
            small = least(reader)
            if small[0] ** len(small[1]) < 5000:
                due = [word for word in words_up_to(reader[0], len(small[1])) if takes(reader, word)]
                self.assertEqual(first_word(reader), due[0] if due else None)
                self.assertEqual(first_word(shuffled(reader, Dice(34))), first_word(reader))

    def test_many_stands(self):
        self.assertEqual(first_word(ring(2000)), (0,) * 1999)
        word = tuple(k * k % 3 for k in range(1999))
        rows = tuple(tuple(place + 1 if letter == word[place] else 0 for letter in range(3)) for place in range(1999))
        self.assertEqual(first_word((3, rows + ((0, 0, 0),), (1999,))), word)


class HowMany(unittest.TestCase):

    def test_length_0(self):
        for reader in some_readers():
            self.assertEqual(how_many(reader, 0), 1 if takes(reader, ()) else 0)

    def test_against_all_words(self):
        for reader in some_readers():
            for length in range((12, 7, 5)[reader[0] - 1]):
                due = [word for word in words_of(reader[0], length) if takes(reader, word)]
                self.assertEqual(how_many(reader, length), len(due))

    def test_few_stands_and_longer_words(self):
        # Beyond the length from which longer strides are made.
        for reader in [ENDS_IN_ONE, EVEN_ZEROS, HOLDS_ZERO_ONE] + some_readers()[24:36]:
            for length in (9, 10, 11, 12):
                due = [word for word in words_of(2, length) if takes(reader, word)]
                self.assertEqual(how_many(reader, length), len(due))

    def test_all_and_none(self):
        for letters in (1, 2, 3):
            for length in (0, 1, 2, 3, 4, 5, 6, 7, 8, 30, 64, 200, 1000, 4097):
                self.assertEqual(how_many(every(letters), length), letters ** length)
                self.assertEqual(how_many(nothing(letters), length), 0)

    def test_a_number_is_told(self):
        for length in (0, 1, 500):
            self.assertIs(type(how_many(ENDS_IN_ONE, length)), int)

    def test_long_words(self):
        for length in (1, 2, 15, 16, 17, 18, 35, 36, 37, 100, 999, 1000, 5000):
            self.assertEqual(how_many(ENDS_IN_ONE, length), 2 ** (length - 1))
            self.assertEqual(how_many(EVEN_ZEROS, length), 2 ** (length - 1))
            # Words without a 0 and right behind it a 1: some 1s, then 0s.
            self.assertEqual(how_many(HOLDS_ZERO_ONE, length), 2 ** length - length - 1)

    def test_against_step_by_step(self):
        for reader in some_readers():
            counts = [1] + [0] * (len(reader[1]) - 1)
            for length in range(400):
                if length in (20, 63, 64, 65, 255, 399):
                    self.assertEqual(how_many(reader, length), sum(counts[stand] for stand in reader[2]))
                after = [0] * len(counts)
                for stand, row in enumerate(reader[1]):
                    for goal in row:
                        after[goal] += counts[stand]
                counts = after

    def test_lengths_beyond_any_walk(self):
        self.assertEqual(how_many(EVEN, 10 ** 30), 1)
        self.assertEqual(how_many(EVEN, 10 ** 30 + 1), 0)
        self.assertEqual(how_many(ring(2000), 2000 * 10 ** 12 + 1999), 1)
        self.assertEqual(how_many(ring(2000), 2000 * 10 ** 12 + 1998), 0)
        self.assertEqual(how_many(contrary(HOLDS_ZERO_ONE), 10 ** 18), 10 ** 18 + 1)
        self.assertEqual(how_many(nothing(3), 10 ** 40), 0)
        self.assertEqual(how_many(tree(3, 2, [(0,), (1, 2)]), 10 ** 40), 0)
        self.assertEqual(how_many(every(1), 10 ** 40), 1)

    def test_many_stands(self):
        self.assertEqual([how_many(ring(2000), length) for length in (0, 1998, 1999, 2000, 5999)], [0, 0, 1, 0, 1])
        big = some_reader(Dice(35), 3, 2000, 2)
        self.assertEqual(how_many(big, 50) + how_many(contrary(big), 50), 3 ** 50)

    def test_with_the_first_word(self):
        for reader in some_readers():
            word = first_word(reader)
            if word is not None:
                self.assertGreater(how_many(reader, len(word)), 0)
                for length in range(len(word)):
                    self.assertEqual(how_many(reader, length), 0)


class Refusals(unittest.TestCase):

    def test_of_two(self):
        for ask in (alike, within):
            for thing in odd_things() + NO_READERS:
                for pair in ((thing, ring(2)), (ring(2), thing), (thing, thing)):
                    with self.assertRaises(NoReader):
                        ask(*pair)

    def test_unlike_many_letters(self):
        for ask in (alike, within):
            for one, other in unlike_readers():
                with self.assertRaises(Unlike):
                    ask(one, other)

    def test_no_reader_ahead_of_unlike(self):
        for ask in (alike, within):
            for wrong in ((1, ((1,),), ()), (1, ((0,),), (1,)), (1, [(0,)], ()), (1, ((0,),) * 2001, ())):
                with self.assertRaises(NoReader):
                    ask(wrong, every(2))
                with self.assertRaises(NoReader):
                    ask(every(3), wrong)

    def test_of_one(self):
        for thing in odd_things() + NO_READERS:
            with self.assertRaises(NoReader):
                first_word(thing)
            for length in (0, 1, 7):
                with self.assertRaises(NoReader):
                    how_many(thing, length)


class TheSameWords(unittest.TestCase):

    def test_less_is_what_within_asks(self):
        for one, other in some_pairs():
            self.assertEqual(within(one, other), first_word(less(one, other)))


if __name__ == "__main__":
    unittest.main()
