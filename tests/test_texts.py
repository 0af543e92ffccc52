import itertools
import re
import unittest

from backhead.errors import NoMachine, NoText
from backhead.machines import checked
from backhead.texts import read, shown
from samples import BACK_AT_ONE, NEVER_ENDS, SHUTTLE, odd_things, some_machines

BACK_AT_ONE_TEXT = "2\n0> 0> 1< no\n1> yes 1< no\n"

TWELVE = (3, (((11, 1), (10, -1), (9, 1), "yes", (11, -1)),) + (((0, 1), "no", (10, 1), (1, -1), (10, -1)),) * 11)
TWELVE_TEXT = "3\n11> 10< 9> yes 11<\n" + "0> no 10> 1< 10<\n" * 11


def is_written(text):
    """Whether some machine is written so, told by the form of the whole text alone."""
    whole = re.fullmatch("([123])\n((?:[^\n]*\n){1,12})", text)
    if whole is None:
        return False
    letters = int(whole[1])
    lines = whole[2].split("\n")[:-1]
    number = "(?:" + "|".join(str(room) for room in range(len(lines))) + ")"
    line = f"(?:yes|no|{number}>)" + f" (?:yes|no|{number}[<>])" * letters + f" (?:yes|no|{number}<)"
    return all(re.fullmatch(line, part) for part in lines)


def small_machines():
    """All of one letter and one room."""
    columns = [["yes", "no"] + [(0, way) for way in ways] for ways in ((1,), (1, -1), (-1,))]
    return [(1, (room,)) for room in itertools.product(*columns)]


class Shown(unittest.TestCase):

    def test_line_by_line(self):
        self.assertEqual(shown(BACK_AT_ONE), BACK_AT_ONE_TEXT)
        self.assertEqual(shown(SHUTTLE), "1\n0> 0> 1<\n2> 1< no\n2> 2> yes\n")
        self.assertEqual(shown(NEVER_ENDS), "1\n0> 0> 1<\n0> 1< 1<\n")

    def test_one_room(self):
        self.assertEqual(shown((1, (("yes", "no", "yes"),))), "1\nyes no yes\n")
        self.assertEqual(shown((2, (((0, 1), "no", (0, -1), (0, -1)),))), "2\n0> no 0< 0<\n")
        self.assertEqual(shown((3, (("no", (0, 1), (0, -1), "yes", (0, -1)),))), "3\nno 0> 0< yes 0<\n")

    def test_twelve_rooms(self):
        self.assertEqual(shown(TWELVE), TWELVE_TEXT)

    def test_a_text_is_told(self):
        for machine in some_machines():
            text = shown(machine)
            self.assertIs(type(text), str)
            self.assertTrue(is_written(text))
            self.assertEqual(text.count("\n"), len(machine[1]) + 1)

    def test_no_two_are_written_alike(self):
        texts = [shown(machine) for machine in small_machines()]
        self.assertEqual(len(texts), 36)
        self.assertEqual(len(set(texts)), 36)

    def test_refusals(self):
        for thing in odd_things() + [BACK_AT_ONE_TEXT, (1, (("yes", "no"),)), (1, (("yes", "no", (0, 1)),)), (1, ())]:
            with self.assertRaises(NoMachine):
                shown(thing)


class Read(unittest.TestCase):

    def refuse(self, text):
        with self.subTest(text=text):
            with self.assertRaises(NoText):
                read(text)

    def test_some_texts(self):
        self.assertEqual(read(BACK_AT_ONE_TEXT), BACK_AT_ONE)
        self.assertEqual(read(TWELVE_TEXT), TWELVE)
        self.assertEqual(read("1\nyes no yes\n"), (1, (("yes", "no", "yes"),)))
        self.assertEqual(read("3\nno 0> 0< yes 0<\n"), (3, (("no", (0, 1), (0, -1), "yes", (0, -1)),)))

    def test_back_to_the_machine(self):
        for machine in some_machines() + small_machines() + [BACK_AT_ONE, SHUTTLE, NEVER_ENDS, TWELVE]:
            again = read(shown(machine))
            self.assertEqual(again, machine)
            self.assertEqual(checked(again), again)
            self.assertEqual(shown(again), shown(machine))

    def check(self, text):
        """Read or refused, as the form of the text asks."""
        if is_written(text):
            self.assertEqual(shown(read(text)), text)
            return True
        with self.assertRaises(NoText):
            read(text)
        return False

    def changed_texts(self, text):
        signs = "0123456789<> \n+-_.yesno\t\r\v\f\0Y\u0660\u00b2\uff11\u00a0\u2028"
        for place in range(len(text) + 1):
            yield text[:place] + text[place + 1:]
            for sign in signs:
                yield text[:place] + sign + text[place:]
                yield text[:place] + sign + text[place + 1:]

    def test_a_sign_put_in_taken_out_or_exchanged(self):
        told = {}
        for machine in (BACK_AT_ONE, SHUTTLE, (1, (("yes", (0, 1), "no"),)), TWELVE,
                        (3, (((1, 1), "no", (0, -1), "yes", (1, -1)), ("no", (1, 1), "yes", (0, 1), "no")))):
            for text in self.changed_texts(shown(machine)):
                told[self.check(text)] = True
        self.assertEqual(sorted(told), [False, True])

    def test_what_came_of_another_text_is_read(self):
        self.assertEqual(read(BACK_AT_ONE_TEXT.replace("1< no\n1", "0< no\n1")),
                         (2, (((0, 1), (0, 1), (0, -1), "no"), ((1, 1), "yes", (1, -1), "no"))))
        # A line twice or put in: a machine of one more room.
        self.assertEqual(read(BACK_AT_ONE_TEXT + "1> yes 1< no\n"), (2, BACK_AT_ONE[1] + BACK_AT_ONE[1][1:]))
        self.assertEqual(read("2\n2> yes no 2<\n" + BACK_AT_ONE_TEXT[2:]),
                         (2, (((2, 1), "yes", "no", (2, -1)),) + BACK_AT_ONE[1]))

    def test_lines_twice_put_in_and_taken_out(self):
        for machine in (BACK_AT_ONE, SHUTTLE, TWELVE):
            lines = shown(machine).split("\n")[:-1]
            for place in range(len(lines)):
                for many in (0, 2, 3):
                    text = "\n".join(lines[:place] + [lines[place]] * many + lines[place + 1:]) + "\n"
                    self.check(text)
                for line in ("", " ", "yes", "1", "yes no yes", "0> yes no 0<", lines[-1], lines[0] + "\n"):
                    self.check("\n".join(lines[:place] + [line] + lines[place:]) + "\n")
        self.refuse("2\n" + BACK_AT_ONE_TEXT)
        # More than 12 rooms.
        self.refuse(TWELVE_TEXT + "0> no 10> 1< 10<\n")
        self.assertEqual(len(read("1\n" + "yes no yes\n" * 12)[1]), 12)
        self.refuse("1\n" + "yes no yes\n" * 13)

    def test_number_of_letters(self):
        for line in ("0", "4", "-1", "+1", "01", "1 ", " 1", "1.0", "", "yes", "11", "one", "1>"):
            self.refuse(line + "\nyes no yes\n")
        for letters in range(6):
            for moves in range(8):
                text = f"{letters}\n" + " ".join(["no"] * moves) + "\n"
                self.assertEqual(self.check(text), 1 <= letters <= 3 and moves == letters + 2)

    def test_empty_lines(self):
        for text in ("\n1\nyes no yes\n", "1\n\nyes no yes\n", "1\nyes no yes\n\n", "1\nyes no yes\n\nno no no\n",
                     "1\nyes no yes\n\n\n"):
            self.refuse(text)

    def test_blanks(self):
        for text in (" 1\nyes no yes\n", "1 \nyes no yes\n", "1\n yes no yes\n", "1\nyes no yes \n", "1\nyes  no yes\n",
                     "1\nyes no  yes\n", "1\nyes no yes\n ", "1\nyes\tno yes\n", "1\nyesno yes\n", "1\n0 > no yes\n",
                     "1\nyes\u00a0no yes\n", " \n", "1\nyes no yes\r\n", "1\r\nyes no yes\r\n", "1\ryes no yes\r"):
            self.refuse(text)

    def test_numbers_of_rooms(self):
        self.assertEqual(read("1\nyes 0> no\n"), (1, (("yes", (0, 1), "no"),)))
        for move in ("00>", "+0>", "-0>", "0_0>", "1>", "10>", "-1>", "0", ">", "0>>", "><", "0<>", ">0", "0.0>", "o>",
                     "\u0660>", "\uff10>", "\u00b2>", "Yes", "YES", "ye", "yess", "round", "n", "NO", "yes>", ""):
            self.refuse(f"1\nyes {move} no\n")
        self.refuse("1\nyes 01> no\nno no no\n")
        self.refuse("1\nyes 2> no\nno no no\n")
        for rooms in range(1, 13):
            behind = "no no no\n" * (rooms - 1)
            for room in range(14):
                self.assertEqual(self.check(f"1\nyes {room}> no\n" + behind), room < rooms)
                self.assertEqual(self.check(f"1\nyes no no\n" + behind.replace("no\n", f"{room}<\n", 1)),
                                 room < rooms or rooms == 1)

    def test_no_move_beyond_a_wall(self):
        for letters in (1, 2, 3):
            middle = "no " * letters
            self.refuse(f"{letters}\n0< {middle}no\n")
            self.refuse(f"{letters}\nno {middle}0>\n")
            self.refuse(f"{letters}\n0< {middle}0>\n")
            room = ((0, 1),) + ("no",) * letters + ((0, -1),)
            self.assertEqual(read(f"{letters}\n0> {middle}0<\n"), (letters, (room,)))

    def test_line_ends(self):
        for text in ("1\nyes no yes", "1", "", "\n", "\n\n", "1\n", "1\n\n", "yes no yes\n", "1 yes no yes\n",
                     BACK_AT_ONE_TEXT[:-1], TWELVE_TEXT[:-1], BACK_AT_ONE_TEXT + "\n", BACK_AT_ONE_TEXT * 2,
                     BACK_AT_ONE_TEXT + "yes", "\ufeff" + BACK_AT_ONE_TEXT, BACK_AT_ONE_TEXT.upper()):
            self.refuse(text)

    def test_every_cut(self):
        for place in range(len(TWELVE_TEXT)):
            self.check(TWELVE_TEXT[:place])
            self.check(TWELVE_TEXT[place:])

    def test_no_text_at_all(self):
        for thing in odd_things() + [BACK_AT_ONE, BACK_AT_ONE_TEXT.encode(), [BACK_AT_ONE_TEXT], (BACK_AT_ONE_TEXT,),
                                     list(BACK_AT_ONE_TEXT), BACK_AT_ONE_TEXT.split("\n"), 2]:
            with self.assertRaises(NoText):
                read(thing)

    def test_long_texts(self):
        for text in ("1" * 100000, "\n" * 100000, " " * 100000, "1\n" + "yes no yes\n" * 100000, "1\n" + "9" * 100000,
                     "1\nyes " + "0" * 5000 + "> no\n", "1" * 5000 + "\nyes no yes\n", "1\n" + "yes " * 100000 + "\n"):
            with self.assertRaises(NoText):
                read(text)


if __name__ == "__main__":
    unittest.main()
