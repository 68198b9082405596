"""What holds over the whole program: its interface, arguments by name, and that its parts tell the same."""

import importlib
import inspect
import unittest
from random import Random

from labelhouse.commands import PLAIN, printed, settings_behind
from labelhouse.counters import size, text_at
from labelhouse.desk import Desk
from labelhouse.errors import OutOfPlace
from labelhouse.printers import Printer
from labelhouse.rounds import effect, label_at, led_by, repeated, steady
from labelhouse.runs import label, next_label
from labelhouse.texts import program_text, read_program

import oracle
from samples import SMALL, some_cases, some_look, some_program
from test_counters import some_counter
from test_desk import some_desk

PROGRAM = (("box", 0, 0, 2, 2), ("field", 1, 0, "A"))
LOOK = oracle.look_of(SMALL, set())
EFFECT = (("kept", 1), ("told", 0), ("kept", 0), ("told", 1), ("kept", 0), ("kept", 0))
BOOK = ("11", "1", (("A", "0000"), ("B", "0011"), ("C", "0101")))
COUNTER = ("ab", "xyz")
RUN = (COUNTER, 1, 5, 20, 3)
PANEL = ((COUNTER, 1, 5, 2), (("01",), 0, 1, 3))
LOST = ((1, 2), (4, 9))
DESIRE = ((1, None), (0, 2))
STORE = (("a", "b"), ((0, 3), "c"))
DOT_LIST = (((("A", 0, 0, 0), ((), 1)),), ((), 0))

# The interface: each call with its parameters in turn, and arguments for them.
CALLS = {
    "commands": (
        ("need_machine", "thing", (SMALL,)), ("is_settings", "machine value", (SMALL, PLAIN)),
        ("is_command", "machine value", (SMALL, PROGRAM[0])), ("settings_behind", "machine settings program", (SMALL, PLAIN, PROGRAM)),
        ("is_look", "machine value", (SMALL, LOOK)), ("printed", "machine settings program look", (SMALL, PLAIN, PROGRAM, LOOK)),
    ),
    "dots": (
        ("writes", "machine settings program x y", (SMALL, PLAIN, PROGRAM, 1, 0)),
        ("dot_list", "machine settings program x y", (SMALL, PLAIN, PROGRAM, 1, 0)),
        ("share", "machine settings program x y", (SMALL, PLAIN, PROGRAM, 1, 0)), ("dots_alike", "one other", (DOT_LIST, DOT_LIST)),
    ),
    "likeness": (
        ("alike_from", "machine settings one other", (SMALL, PLAIN, PROGRAM, ())),
        ("apart_from", "machine settings one other", (SMALL, PLAIN, PROGRAM, ())), ("reads", "machine program", (SMALL, PROGRAM)),
        ("alike", "machine one other", (SMALL, PROGRAM, ())), ("apart", "machine one other", (SMALL, PROGRAM, ())),
        ("needless", "machine program", (SMALL, PROGRAM)),
    ),
    "rounds": (
        ("effect", "machine program", (SMALL, PROGRAM)), ("joined", "one other", (EFFECT, EFFECT)),
        ("repeated", "value times", (EFFECT, 3)), ("led_by", "value settings", (EFFECT, PLAIN)),
        ("label_at", "machine settings program look number", (SMALL, PLAIN, PROGRAM, LOOK, 2)),
        ("steady", "machine settings program", (SMALL, PLAIN, PROGRAM)),
    ),
    "clipping": (
        ("cuts", "machine settings program", (SMALL, PLAIN, PROGRAM)),
        ("least_pairs", "machine settings program first last", (SMALL, PLAIN, PROGRAM, 0, 1)),
        ("room", "machine settings program", (SMALL, PLAIN, PROGRAM)),
    ),
    "bars": (
        ("need_book", "thing", (BOOK,)), ("bars", "book text", (BOOK, "AB")), ("reading", "book string", (BOOK, "11000000111")),
        ("turned", "book text", (BOOK, "C")), ("book_paper", "book", (BOOK,)), ("check_book", "book paper", (BOOK, ("turns", "C"))),
    ),
    "damage": (
        ("check_sign", "book weights text", (BOOK, (1, 2), "AB")), ("differing", "book weights one other", (BOOK, (1, 2), "AB", "BC")),
        ("least_damage", "book weights many", (BOOK, (1, 2), 3)), ("damage_paper", "book weights many", (BOOK, (1, 2), 1)),
        ("check_damage", "book weights many paper", None),
    ),
    "counters": (
        ("need_counter", "thing", (COUNTER,)), ("size", "counter", (COUNTER,)), ("text_at", "counter number", (COUNTER, 3)),
        ("number_of", "counter text", (COUNTER, "by")),
    ),
    "runs": (
        ("need_run", "thing", (RUN,)), ("label", "run number", (RUN, 4)), ("round_of", "run", (RUN,)), ("first_again", "run", (RUN,)),
        ("times", "run text", (RUN, "by")), ("next_label", "run text number", (RUN, "by", 9)), ("gaps", "run", (RUN,)),
    ),
    "ladders": (
        ("need_question", "thing", ((7, 19, 3, 4),)), ("ladder", "thing", ((7, 19, 3, 4),)), ("answer", "thing", ((7, 19, 3, 4),)),
        ("is_ladder", "thing", (((7, 19, 3, 4),),)), ("many_hits", "a b m high many", (7, 3, 19, 4, 100)),
        ("shared", "one other", (RUN, RUN)), ("many_shared", "one other", (RUN, RUN)),
    ),
    "panels": (
        ("shown", "panel number", (PANEL, 7)), ("comes_back", "panel", (PANEL,)), ("meet", "panel first second", (PANEL, "ax", "1")),
    ),
    "jams": (
        ("many_lost", "run lost serial", (RUN, LOST, 2)), ("fewest_jobs", "run lost", (RUN, LOST)), ("jobs", "run lost", (RUN, LOST)),
        ("jobs_paper", "run lost", (RUN, LOST)), ("check_jobs", "run lost paper", (RUN, (), ((), ()))),
        ("least_price", "run lost setup", (RUN, LOST, 2)), ("price", "run lost setup jobs", (RUN, LOST, 2, ((0, 9),) * 3)),
        ("cheapest", "run lost setup", (RUN, LOST, 2)),
    ),
    "sheets": (
        ("need_sheet", "thing", ((3, 4),)), ("serial_at", "sheet way place", ((3, 4), "turns", (1, 2))),
        ("place_of", "sheet way serial", ((3, 4), "turns", 5)), ("moves_to", "sheet way far serial", ((3, 4), "turns", "lanes", 5)),
        ("many_staying", "sheet way far", ((3, 4), "turns", "lanes")), ("rounds", "sheet way far", ((3, 4), "turns", "lanes")),
    ),
    "rolls": (
        ("need_lengths", "thing", ((3, 4),)), ("fewest_rolls", "lengths length", ((3, 4), 5)), ("split", "lengths length", ((3, 4), 5)),
        ("rolls_paper", "lengths length", ((3, 4), 5)), ("check_rolls", "lengths length paper", ((3, 4), 5, ((1, 1), (0, 1)))),
        ("least_length", "lengths many", ((3, 4), 1)),
    ),
    "prints": (
        ("need_desire", "thing", (DESIRE,)), ("serves", "desire start thing", (DESIRE, (None, 1), ())),
        ("fewest_commands", "desire start", (DESIRE, (None, 1))), ("program", "desire start", (DESIRE, (None, 1))),
        ("commands_paper", "desire start", (DESIRE, (None, 1))),
        ("check_commands", "desire start paper", (((1,),), (1,), ((("print",),), (), 0))),
        ("fewest_rounds", "desire start times", (DESIRE, (None, 1), 7)),
    ),
    "formats": (
        ("need_store", "thing", (STORE,)), ("length_of", "store number", (STORE, 1)), ("letter_at", "store number label", (STORE, 1, 3)),
        ("many_of", "store number pattern", (STORE, 1, "ba")), ("first_of", "store number pattern", (STORE, 1, "ba")),
        ("many_before", "store number letter label", (STORE, 1, "b", 5)), ("label_with", "store number letter count", (STORE, 1, "b", 2)),
        ("letters", "store number first many", (STORE, 1, 2, 4)),
    ),
    "printers": (("under", "printer deed", (Printer(COUNTER, 0, 1), len)),),
    "texts": (
        ("program_text", "machine program", (SMALL, PROGRAM)), ("read_program", "machine string", (SMALL, "box 0 0 1 1")),
    ),
}
METHODS = {
    ("printers", "Printer"): (
        ("__init__", "self counter begin step *roll=None"), ("__call__", "self many"), ("jam", "self many"), ("again", "self"),
        ("roll", "self many"), ("__len__", "self"), ("__contains__", "self x"), ("back", "self *many=1"), ("copy", "self"),
        ("trial", "self"), ("__eq__", "self other"),
    ),
    ("desk", "Desk"): (("__init__", "self"), ("say", "self line")),
}
PROPERTIES = {
    ("printers", "Printer"): ("counter", "begin", "step", "printed", "left", "lost", "next_text"), ("desk", "Desk"): ("program",),
}


def parameters(call):
    found = []
    for name, one in inspect.signature(call).parameters.items():
        star = "*" if one.kind is one.KEYWORD_ONLY else ""
        found.append(star + name + ("" if one.default is one.empty else f"={one.default!r}"))
        if not star and one.kind is not one.POSITIONAL_OR_KEYWORD:
            found.append(str(one.kind))
    return " ".join(found)


class InterfaceTest(unittest.TestCase):
    def test_functions(self):
        for module, rows in CALLS.items():
            file = importlib.import_module(f"labelhouse.{module}")
            for name, wanted, _ in rows:
                call = getattr(file, name)
                self.assertTrue(inspect.isfunction(call), name)
                self.assertEqual((call.__module__, call.__name__, parameters(call)), (f"labelhouse.{module}", name, wanted))

    def test_classes(self):
        for (module, name), rows in METHODS.items():
            kind = getattr(importlib.import_module(f"labelhouse.{module}"), name)
            self.assertEqual(kind.__module__, f"labelhouse.{module}")
            for method, wanted in rows:
                self.assertEqual(parameters(vars(kind)[method]), wanted, method)
            for told in PROPERTIES[module, name]:
                self.assertIsInstance(vars(kind)[told], property)

    def test_by_name(self):
        for module, rows in CALLS.items():
            file = importlib.import_module(f"labelhouse.{module}")
            for name, wanted, arguments in rows:
                if arguments is None:
                    arguments = (BOOK, (1, 2), 1, file.damage_paper(BOOK, (1, 2), 1))
                call = getattr(file, name)
                result = call(*arguments)
                named = dict(zip(wanted.split(), arguments))
                self.assertEqual(call(**named), result, name)
                self.assertEqual(call(**dict(reversed(named.items()))), result, name)
                half = len(arguments) // 2
                self.assertEqual(call(*arguments[:half], **dict(list(named.items())[half:])), result, name)
                self.assertNotIsInstance(result, list)
                with self.assertRaises(TypeError):
                    call(*arguments, None)

    def test_first_wrong_argument(self):
        # With all arguments wrong, it is the first one that is refused; what takes any value at all refuses none.
        whole = {
            "machine": "BadMachine", "run": "BadRun", "counter": "BadCounter", "sheet": "BadSheet", "lengths": "BadLengths",
            "desire": "BadDesire", "store": "BadStore", "book": "BadBook",
        }
        things = {
            "need_machine": "BadMachine", "need_run": "BadRun", "need_counter": "BadCounter", "need_sheet": "BadSheet",
            "need_lengths": "BadLengths", "need_desire": "BadDesire", "need_store": "BadStore", "need_book": "BadBook",
            "shared": "BadRun", "many_shared": "BadRun",
        }
        for module, rows in CALLS.items():
            file = importlib.import_module(f"labelhouse.{module}")
            for name, wanted, arguments in rows:
                words = wanted.split()
                error = things.get(name, whole.get(words[0], "OutOfPlace"))
                if name == "is_ladder":
                    self.assertIs(file.is_ladder(None), False)
                    continue
                for wrong in ([None] * len(words), [object()] * len(words), [[]] * len(words), [True] * len(words)):
                    with self.assertRaises((ValueError, LookupError, OverflowError), msg=name) as caught:
                        getattr(file, name)(*wrong)
                    self.assertEqual(type(caught.exception).__name__, error, name)


class TogetherTest(unittest.TestCase):
    def test_texts_and_pictures(self):
        chance = Random(281)
        for machine, settings, program in some_cases(282, 200):
            look = some_look(chance, machine)
            again = read_program(machine, program_text(machine, program))
            self.assertEqual(printed(machine, settings, again, look), oracle.picture(machine, settings, program, look))
            self.assertEqual(settings_behind(machine, settings, again), oracle.behind(settings, program))
            self.assertEqual(led_by(effect(machine, again), settings), oracle.behind(settings, program))

    def test_labels_beside_a_desk(self):
        chance = Random(283)
        longest = 0
        for _ in range(80):
            machine = (
                (chance.randint(1, 6), chance.randint(1, 6)), ((chance.randint(1, 2), chance.randint(1, 2)),),
                tuple((name, chance.randint(1, 2)) for name in sorted(chance.sample("ABC", chance.randint(0, 2)))),
            )
            words = ("move", "move", "turn", "scale", "ink", "box", "box", "clear", "field", "plain", "home")
            program = some_program(chance, machine, chance.randint(1, 6), words)
            look = some_look(chance, machine)
            desk = some_desk(chance, machine, program)
            lines = program_text(machine, program).split("\n")
            settings = PLAIN
            pictures = []
            for number in range(10):
                # The desk has the program as often as it was told; what is behind it is where the next label begins.
                pictures.append(printed(machine, settings, program, look))
                self.assertEqual(label_at(machine, PLAIN, program, look, number), pictures[-1])
                settings = led_by(repeated(effect(machine, program), number + 1), PLAIN)
                self.assertEqual(desk.say("behind"), " ".join(str(part) for part in settings))
                if len(desk.program) + len(lines) <= 60:
                    self.assertEqual([desk.say(line) for line in lines], ["done"] * len(lines))
                else:
                    break
            first = steady(machine, PLAIN, program)
            self.assertEqual(len(set(pictures[first:])), 1 if first < len(pictures) else 0)
            longest = max(longest, first)
        self.assertGreater(longest, 3)

    def test_printers_beside_runs(self):
        chance = Random(284)
        for _ in range(60):
            counter = some_counter(chance)
            run = (counter, chance.randrange(size(counter)), chance.randint(-40, 40), chance.randint(1, 40), 1)
            printer = Printer(*run[:3], roll=run[3])
            number = 0
            while printer.left:
                many = chance.randint(1, printer.left)
                self.assertEqual(printer(many), (label(run, number), label(run, number + many - 1)))
                number += many
            printer.jam(chance.randint(1, number))
            (first, behind), = printer.lost
            self.assertEqual((behind, printer.again.__self__ is printer), (run[3], True))
            for at in range(size(counter)):
                text = text_at(counter, at)
                label_of_it = next_label(run, text, 0)
                self.assertIs(text in printer, label_of_it is not None and label_of_it < first)
            self.assertEqual(printer.again(), ((label(run, first), label(run, behind - 1)),))

    def test_desks_and_printers_change_nothing_by_an_error(self):
        desk, printer = Desk(), Printer(COUNTER, 0, 1, roll=3)
        for call in (lambda: desk.say(None), lambda: printer(None), lambda: printer.jam(1), lambda: printer.roll(-1)):
            with self.assertRaises(OutOfPlace):
                call()
        self.assertTrue(printer == Printer(COUNTER, 0, 1, roll=3))


if __name__ == "__main__":
    unittest.main()
