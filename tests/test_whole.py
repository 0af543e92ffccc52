"""What is promised over the whole program: its names, its refusals in their order, and that nothing is kept."""

import copy
import importlib
import inspect
import unittest

from backhead import errors
from samples import BACK_AT_ONE, SHUTTLE, every, odd_things, ring, some_machines, some_readers

# Of each function: its file, its name, its arguments, what stands for each, and its refusals in order.
FUNCTIONS = [
    ("machines", "checked", ["machine"], "NoMachine"),
    ("machines", "run", ["machine", "word"], "NoMachine NoWord"),
    ("doings", "doing", ["machine", "word"], "NoMachine NoWord"),
    ("doings", "doings", ["machine"], "NoMachine"),
    ("readers", "checked_reader", ["reader"], "NoReader"),
    ("readers", "takes", ["reader", "word"], "NoReader NoWord"),
    ("readers", "least", ["reader"], "NoReader"),
    ("readers", "reader_of", ["machine", "fate"], "NoMachine NoFate"),
    ("joins", "both", ["one", "other"], "NoReader Unlike"),
    ("joins", "either", ["one", "other"], "NoReader Unlike"),
    ("joins", "less", ["one", "other"], "NoReader Unlike"),
    ("joins", "contrary", ["reader"], "NoReader"),
    ("asks", "alike", ["one", "other"], "NoReader Unlike"),
    ("asks", "within", ["one", "other"], "NoReader Unlike"),
    ("asks", "first_word", ["reader"], "NoReader"),
    ("asks", "how_many", ["reader", "length"], "NoReader"),
    ("makes", "turned", ["machine"], "NoMachine TooBig"),
    ("makes", "one_after", ["one", "other"], "NoMachine Unlike TooBig"),
    ("makes", "machine_of", ["reader"], "NoReader TooBig"),
    ("texts", "shown", ["machine"], "NoMachine"),
    ("texts", "read", ["text"], "NoText"),
]

RIGHT = {"machine": SHUTTLE, "word": (0, 0), "reader": ring(3), "fate": "round", "length": 5, "text": "1\nyes no no\n"}
REFUSAL = {"machine": "NoMachine", "word": "NoWord", "reader": "NoReader", "fate": "NoFate", "text": "NoText"}

# Somewhat beyond what a point bounds, or with True or False for a number, or lists for tuples.
NEARLY = {
    "machine": [(0, (("no", "no"),)), (4, (("no",) * 6,)), (1, ()), (1, (("no", "no", "no"),) * 13), (True, SHUTTLE[1]),
                (1, list(SHUTTLE[1])), [1, SHUTTLE[1]], (1, (((False, 1), "no", "no"),)),
                (1, (((0, True), "no", "no"),)),
                (1, (((1, 1), "no", "no"),)), (1, (((0, -1), "no", "no"),)), (1, (("no", "no", (0, 1)),)),
                (1, (("no", "round", "no"),)), (1, (("no", "no"),)), (1, (["no", "no", "no"],)), ring(3)],
    "reader": [(0, ((),), ()), (4, ((0,) * 4,), ()), (1, (), ()), (1, ((0,),) * 2001, ()), (True, ((0,),), ()),
               (1, [(0,)], ()), [1, ((0,),), ()], (1, ((False,),), ()), (1, ((0,),), (False,)), (1, ((0,),), (1,)),
               (1, ((0,),), (0, 0)), (1, ((0,), (0,)), (1, 0)), (1, ((1,),), ()), (1, ((0, 0),), ()), (1, ((0,),), [0]),
               SHUTTLE],
    "word": [[], [0], (1,), (-1,), (False,), (True,), (0, 0, 1), ((0,),), "0", range(2)],
    "fate": ["", "Yes", "rounds", ("yes",), ["no"], True, b"no"],
    "text": ["", "\n", "1\n", "1\nyes no no", b"1\nyes no no\n", ["1", "yes no no"], SHUTTLE],
}


def function(file, name):
    return getattr(importlib.import_module("backhead." + file), name)


def kinds_of(names, refusals):
    """What stands for each argument: one and other are what the first refusal speaks of."""
    both = "machine" if refusals.startswith("NoMachine") else "reader"
    return [both if name in ("one", "other") else name for name in names]


class Interface(unittest.TestCase):

    def test_names_and_arguments(self):
        for file, name, names, refusals in FUNCTIONS:
            with self.subTest(name):
                told = inspect.signature(function(file, name))
                self.assertEqual(list(told.parameters), names)

    def test_right_things_are_answered(self):
        for file, name, names, refusals in FUNCTIONS:
            things = [RIGHT[kind] for kind in kinds_of(names, refusals)]
            with self.subTest(name):
                function(file, name)(*things)


class Refusals(unittest.TestCase):

    def test_each_place(self):
        for file, name, names, refusals in FUNCTIONS:
            kinds = kinds_of(names, refusals)
            for place, kind in enumerate(kinds):
                if kind == "length":
                    continue
                due = getattr(errors, REFUSAL[kind])
                self.assertIn(REFUSAL[kind], refusals.split())
                for thing in odd_things() + NEARLY[kind]:
                    things = [RIGHT[other] for other in kinds]
                    things[place] = thing
                    with self.subTest(name, place=place):
                        with self.assertRaises(due) as caught:
                            function(file, name)(*things)
                        self.assertIs(type(caught.exception), due)

    def test_the_first_named_where_several_are_due(self):
        for file, name, names, refusals in FUNCTIONS:
            kinds = kinds_of(names, refusals)
            due = getattr(errors, refusals.split()[0])
            for thing in odd_things() + NEARLY[kinds[0]]:
                for other in odd_things() + NEARLY.get(kinds[-1], []):
                    with self.assertRaises(due):
                        function(file, name)(*([thing] + [other] * (len(kinds) - 1)))

    def test_unlike_many_letters(self):
        machine = {1: SHUTTLE, 2: BACK_AT_ONE}
        for file, name, names, refusals in FUNCTIONS:
            if "Unlike" in refusals:
                make = machine.get if refusals.startswith("NoMachine") else every
                for pair in ((1, 2), (2, 1)):
                    with self.assertRaises(errors.Unlike):
                        function(file, name)(make(pair[0]), make(pair[1]))

    def test_a_fate_and_a_letter_that_fit_another_one(self):
        # A word of two letters is none for one of one letter; fates are texts alone.
        for file, name in (("machines", "run"), ("doings", "doing")):
            function(file, name)(BACK_AT_ONE, (1, 0))
            with self.assertRaises(errors.NoWord):
                function(file, name)(SHUTTLE, (1, 0))
        with self.assertRaises(errors.NoWord):
            function("readers", "takes")(ring(2), (1,))


class NothingIsChangedOrKept(unittest.TestCase):

    def calls(self):
        """Each function with things of each kind."""
        machines = [machine for machine in some_machines() if len(machine[1]) < 5]
        readers = [reader for reader in some_readers() if len(reader[1]) < 9]
        things = {"machine": machines, "reader": readers, "word": [(), (0,), (0, 0, 0)], "fate": ["yes", "no", "round"],
                  "length": [0, 1, 9, 500], "text": [function("texts", "shown")(machine) for machine in machines]}
        for file, name, names, refusals in FUNCTIONS:
            kinds = kinds_of(names, refusals)
            for k in range(24):
                chosen = [things[kind][(k * (place + 1)) % len(things[kind])] for place, kind in enumerate(kinds)]
                if len(kinds) == 1 or kinds[0] != kinds[1] or chosen[0][0] == chosen[1][0]:
                    yield function(file, name), chosen

    def test_equal_things_give_equal_answers(self):
        # All twice, the second time with other things in between and in other order.
        calls = [(call, things, copy.deepcopy(things)) for call, things in self.calls()]
        answers = [call(*things) for call, things, again in calls]
        for (call, things, again), answer in reversed(list(zip(calls, answers))):
            self.assertEqual(call(*again), answer)
            self.assertEqual(things, again)

    def test_what_is_told_and_then_changed(self):
        doings = function("doings", "doings")
        told = doings(BACK_AT_ONE)
        kept = list(told)
        told.reverse()
        told.append("more")
        self.assertEqual(doings(BACK_AT_ONE), kept)
        self.assertIsNot(doings(BACK_AT_ONE), doings(BACK_AT_ONE))

    def test_only_doings_tells_a_list(self):
        def lists_in(thing):
            if isinstance(thing, tuple):
                return any(lists_in(part) for part in thing)
            return isinstance(thing, (list, dict, set))

        for call, things in self.calls():
            if call.__name__ != "doings":
                self.assertFalse(lists_in(call(*things)), call.__name__)

    def test_what_is_refused_is_not_changed(self):
        wrong = [[1, [["yes", "no", "yes"]]], (1, [["yes", "no", "yes"]]), (1, (["yes", "no", "yes"],)),
                 [1, [[0]], [0]], (1, [[0]], [0]), (1, ((0,),), [0]), [0, 0], ["yes"], ["1", "yes no yes"],
                 {"yes": "no"}]
        for file, name, names, refusals in FUNCTIONS:
            for thing in wrong:
                before = copy.deepcopy(thing)
                with self.assertRaises(errors.HeadError):
                    function(file, name)(*[thing for argument in names])
                self.assertEqual(thing, before)


if __name__ == "__main__":
    unittest.main()
