"""What holds of every function: [1], and the interface with its files, names and arguments."""

import importlib
import inspect
import random
import unittest

import termfacts
import textfacts
from checks import Checks, outcome
from samples import ALL_SORTS, NO_HISTORIES, ONCE, TOP, Row, behind, matched, mixed, together, wild
from shortbars import errors
from shortbars.calls import need_history

# Each function of the interface, in the file in which it is defined, and its arguments.
INTERFACE = {
    "calls": {
        "need_history": "thing", "is_ahead": "history number far", "is_order": "history value",
        "calls_of_lot": "history lot", "history_of_thing": "history thing"},
    "runs": {"told_by": "history order", "is_explanation": "history value", "states_by": "history order"},
    "search": {"is_explained": "history", "first_explanation": "history"},
    "thin": {
        "without_values": "history thing some", "quiet_places": "history", "plain_form": "history",
        "renamed": "history thing renaming"},
    "cells": {
        "marks_of": "history", "kin_of": "history value", "span_of": "history value",
        "is_forced": "history value far", "odds_in": "history"},
    "cellpapers": {"cell_paper": "history", "check_cell": "history paper"},
    "cellturns": {
        "all_turns": "history", "order_by": "history turn", "cell_count": "history", "is_tight": "history"},
    "lines": {"queue_span": "history value", "out_of_turn": "history", "cover_of": "history number"},
    "linepapers": {"queue_paper": "history", "check_queue": "history paper"},
    "linerows": {"all_rows": "history", "order_of_row": "history row"},
    "spans": {
        "matches": "history", "span_of": "history value", "all_spans": "history", "loose_values": "history"},
    "piles": {
        "can_lie_beneath": "history value far", "is_joined": "history pile", "does_bar": "history pile",
        "bases": "history pile", "least_pile": "history"},
    "stacks": {
        "is_explained_stack": "history", "stack_paper": "history", "check_stack": "history paper",
        "order_by_piles": "history"},
    "blocks": {"blocks": "history", "stretches": "history", "is_filled": "history moment"},
    "stairs": {
        "gaps_of": "history number", "stair_of": "history value", "rest_of_value": "history value",
        "late_value": "history", "stairs_of": "history some"},
    "heads": {
        "is_explained_heads": "history", "heads_paper": "history", "check_heads": "history paper",
        "order_by_stairs": "history", "least_late": "history"},
    "headseams": {"puts_fall": "history", "puts_rise": "history", "as_sort": "history sort"},
    "rooms": {
        "crowd_behind": "history moment", "free_values": "history", "window_of": "history some",
        "room_paper": "history", "check_room": "history paper", "room_bar": "history paper"},
    "roomsize": {"least_room": "history", "sized": "history number"},
    "counters": {
        "surely_between": "history gate far", "perhaps_between": "history gate far", "count_paper": "history",
        "check_count": "history paper", "count_bar": "history paper"},
    "couldtell": {"could_tell": "history number", "told_instead": "history number some"},
    "tickets": {"ticket_paper": "history", "check_tickets": "history paper"},
    "flags": {
        "in_and_out": "history some", "fleeting_values": "history", "flag_paper": "history",
        "check_flags": "history paper"},
    "hastold": {"could_have": "history number"},
    "together": {
        "is_each_explained": "history", "first_parts": "history", "laid": "history parts", "parts_by": "history order"},
    "logs": {
        "need_log": "thing", "log_of_thing": "log thing", "is_told": "log", "first_row": "log", "is_row": "log value",
        "log_by": "history hands"},
    "standings": {
        "standings": "history", "is_live": "history value", "count_from": "history value", "last_states": "history"},
    "sure": {
        "is_surely_ahead": "history number far", "sure_pairs": "history", "sure_paper": "history number far",
        "check_sure": "history number far paper"},
    "places": {"places_of": "history number", "how_many": "history", "explanation_at": "history turn"},
    "answers": {
        "with_answer": "history question told", "all_answers": "history question", "is_narrowed": "history other"},
    "dealings": {
        "fewest_queues": "history", "queue_dealing": "history", "check_queue_dealing": "history paper",
        "fewest_cells": "history", "cell_dealing": "history", "check_cell_dealing": "history paper"},
    "cutsets": {
        "is_cut": "history some", "least_cuts": "history", "cut_size": "history", "is_in_all": "history value"},
    "aboutface": {"is_closed": "history", "faced_about": "history", "order_about": "history order"},
    "readas": {"read_as": "history sort", "is_apart": "history"},
    "barecuts": {"bare_places": "history", "cut_in_two": "history place"},
    "terms": {"need_term": "thing", "history_of": "term", "kids_of": "term"},
    "texts": {"history_text": "history", "term_text": "term", "read_history": "text", "read_term": "text"},
    "judge": {"judged": "text"},
}
# Each class but the errors, in its file: its methods with their arguments, None for a property.
CLASSES = {
    ("watch", "Watch"): {
        "__init__": "self sorts", "begin": "self thing word given", "end": "self number told", "answers": "self number",
        "would": "self number told", "undo": "self many", "__len__": "self", "open_calls": None, "history": None,
        "is_good": None, "went_bad": None},
    ("desk", "Desk"): {"__init__": "self text", "say": "self line", "watch": None},
}
# Things that stand in the place of each argument: some are right for some histories, some for none.
THINGS = {
    "number": (0, 1, 2, 9, None, True), "far": (0, 1, 2, 5, None, False), "value": (0, 1, 2, None, "x", (0, 1), (1, 0), ((), ((),)), ((), (0,))),
    "lot": ((), (0,), (0, 1), (1, 0), [0]), "thing": (0, 1, -1, None), "order": ((), (0,), (0, 1), (1, 0), (0, 1, 2), [0]),
    "some": ((), (0,), (0, 1), (1, 0), 0, 1, 2, None), "renaming": ((), ((0, 7),), ((0, 7), (1, 3), (2, 5), (3, 9)), [(0, 1)]),
    "paper": (("order", ()), ("order", (0, 1)), ("unwritten", 0), ("unput", 0), ("early", 0, 1), ("old", 0, 1),
              ("odds", 0, 1, 1, 0), ("twice", 0, 1), ("turn", 0, 1, 2, None), ("full", 1, (0,)), ["order", (0,)], None,
              ("early", 0), ("pile", (0, 1)), ("covered", 2, (0,)), ("late", (0, 1)), ("strange", 0), ("strange", 1),
              ("crowd", 5), ("covered", 0), ("back", 0, 1), ("many", None, 1), ("few", None, 0), ("few", None, 1), ("gap", 0),
              ("turn", 0, 1), ("shut", 1, 0, None), ("shut", 2, 0, 1), ("sure",), ("not", (1, 0)), ((), ()),
              (((0, 0), (1, 0)), (1,)), (((0, 0),), (0,)), (((0, 0), (1, 1)), (0, 1))),
    "turn": ((), (0,), (0, 1), (None, 0, 1), [0], (1, 0), 0, 1), "row": ((), (0,), (0, 1), (1, 0), (0, 1, 2), [0]),
    "pile": ((), (0,), (0, 1), (0, 2), (0, 1, 2), [0]), "moment": (0, 1, 3, 6, TOP, TOP + 1, None),
    "sort": ("queue", "stack", "heads", "cell", ("room", 1), None), "gate": (None, 0, 1, 2, 3, 9, True),
    "parts": (((),), ((0,),), ((0, 1),), ((1, 0),), ((), (), (), ()), ((0,), (), (), (0,)), [()], None),
    "question": ((50, 51, 0, "take", None), (50, 99, 0, "has", 7), (60, 61, 0, "read", None), (0, 1, 0, "put", 1), (50, 51), None),
    "told": (None, 0, 1, "x"), "other": ((("cell",), ()), (("queue",), ()), (("room", 1), ()), None), "place": (1, 2, 3, 0, None),
    "hands": (((),), ((0,),), ((0, 1),), ((0,), (1,)), ((0, 2), (1,)), ((1, 0),), [()], None),
}
SORTS = ("cell", "queue", "stack", "heads", "counter", "tickets", "set", ("room", 1), ("room", 9))


def every_function():
    for module, functions in INTERFACE.items():
        for name, names in functions.items():
            yield getattr(importlib.import_module("shortbars." + module), name), names.split()


def kind_of(function, names):
    """What the first argument is: a history, a log, a term or a text."""
    return {"need_log": "log", "need_term": "term", "need_history": "history"}.get(function.__name__, names[0])


def histories():
    chance = random.Random(131)
    for sort in SORTS:
        yield (sort,), ()
        yield from mixed(chance, (sort,), 7, 3, 9)
        yield wild(chance, (sort,), 10, 3)
    for sort in ("queue", "stack", "heads"):
        yield from matched(chance, sort, 7, 9)
    yield from mixed(chance, ("cell", "queue", ("room", 2), "counter"), 7, 3, 6)
    # Objects that equal themselves alone cannot be compared with their copies.
    yield from (thing for thing, _ in NO_HISTORIES[::3] if "samples." not in repr(thing))


def logs():
    """Logs of one hand and of two, of up to 8 steps, and what is none."""
    for history in histories():
        if isinstance(history, tuple) and len(history) == 2 and isinstance(history[1], tuple):
            steps = tuple(call[2:] if isinstance(call, tuple) else call for call in history[1])
            yield history[0], (steps,)
            yield history[0], (steps[::2], steps[1::2])
        else:
            yield history


def terms():
    """Terms by chance, some of which are none, and what has no form."""
    chance = random.Random(133)
    yield from (termfacts.any_term(chance, deep) for deep in (0, 1, 2, 3, 4) for _ in range(12))
    yield from (("plain", ("history", history)) for history in list(histories())[::9])
    yield from list(histories())[-9:]


def texts():
    """Texts of histories, terms and sheets, some of them spoilt, and what is none."""
    chance = random.Random(134)
    for history in list(histories())[::4]:
        if isinstance(history, tuple) and len(history) == 2 and need_or_none(history):
            yield textfacts.history_text(history)
            yield textfacts.spoilt(chance, textfacts.history_text(history))
    for term in list(terms())[:60]:
        text = textfacts.term_text(term)
        yield from (text, text + "\nexplained\nfirst 0 1\nsurely 0 1", text + "\ncalls 3", textfacts.spoilt(chance, text))
    yield from (None, 3, ("queue",), b"queue", [])


def need_or_none(thing):
    return outcome(need_history, thing)[0] == "returned"


def firsts(function, names, made={}):
    """What is passed first; of each kind it is made once."""
    kind = kind_of(function, names)
    if kind not in made:
        made[kind] = list({"log": logs, "term": terms, "text": texts, "history": histories}[kind]())
    return made[kind]


def rows_of_things(names):
    """The things that are passed behind the history: each one of the samples comes in its place once."""
    places = [THINGS[name] for name in names]
    many = max([len(place) for place in places], default=1)
    return [tuple(place[(at + 2 * which) % len(place)] for which, place in enumerate(places)) for at in range(many)]


def own_rows(thing):
    """The same with all tuples being of a class of their own."""
    return Row(own_rows(part) for part in thing) if type(thing) is tuple else thing


def told_of(result):
    """What a call came to, but for what an error keeps of the log that it was passed."""
    return result if result[0] == "returned" else (result[1][0], own_rows(result[1][1].get("given")))


class TestInterface(unittest.TestCase):
    def test_names_and_arguments(self):
        for module, functions in INTERFACE.items():
            for name, names in functions.items():
                function = getattr(importlib.import_module("shortbars." + module), name)
                self.assertTrue(inspect.isfunction(function))
                self.assertEqual(function.__module__, "shortbars." + module)
                self.assertEqual(function.__name__, name)
                parameters = inspect.signature(function).parameters.values()
                self.assertEqual([parameter.name for parameter in parameters], names.split())
                for parameter in parameters:
                    self.assertEqual(parameter.kind, inspect.Parameter.POSITIONAL_OR_KEYWORD)
                    self.assertIs(parameter.default, inspect.Parameter.empty)

    def test_classes_methods_and_properties(self):
        for (module, name), members in CLASSES.items():
            found = getattr(importlib.import_module("shortbars." + module), name)
            self.assertEqual((found.__module__, found.__name__), ("shortbars." + module, name))
            for member, names in members.items():
                if names is None:
                    self.assertIsInstance(vars(found)[member], property)
                else:
                    self.assertTrue(inspect.isfunction(vars(found)[member]))
                    self.assertEqual(list(inspect.signature(vars(found)[member]).parameters), names.split())
            public = {member for member in vars(found) if not member.startswith("_")}
            self.assertEqual(public, {member for member in members if not member.startswith("_")})


class TestEveryFunction(Checks, unittest.TestCase):
    def test_arguments_stay_and_equal_calls_come_to_the_same(self):
        told = {}
        for function, names in every_function():
            key = (function.__module__, function.__name__)
            for history in firsts(function, names):
                for things in rows_of_things(names[1:]):
                    result = self.is_pure(function, history, *things)
                    told.setdefault(key, set()).add(result[0])
        for function, names in every_function():
            key = (function.__module__, function.__name__)
            self.assertEqual(told[key], {"returned", "raised"}, key)

    def test_what_was_called_between_makes_no_difference(self):
        calls = [(function, first) + things for function, names in every_function()
                 for first in firsts(function, names)[::5] if isinstance(first, (tuple, str))
                 for things in rows_of_things(names[1:])[:2]]
        first = [outcome(*call) for call in calls]
        second = [outcome(*call) for call in reversed(calls)]
        self.assertEqual(first, list(reversed(second)))

    def test_what_is_refused_is_kept_by_the_error_alone(self):
        lot = [0]
        history = (("cell",), ((0, 1, 0, "write", 1, None),))
        from shortbars.calls import calls_of_lot
        with self.assertRaises(errors.BadLot) as caught:
            calls_of_lot(history, lot)
        self.assertIs(caught.exception.given, lot)
        self.assertEqual(calls_of_lot(history, (0,)), history)

    def test_the_history_is_refused_ahead_of_all_else(self):
        for function, names in every_function():
            if kind_of(function, names) == "history":
                self.refuses_histories(function, *[None for _ in names[1:]])

    def test_things_of_classes_of_their_own_come_to_the_same(self):
        for function, names in every_function():
            if function.__name__ in ("need_history", "need_log", "need_term"):
                continue
            for first in firsts(function, names)[::3]:
                own = own_rows(first)
                for things in rows_of_things(names[1:])[:3]:
                    self.is_pure(function, own, *things)
                    self.assertEqual(told_of(outcome(function, own, *things)), told_of(outcome(function, first, *things)))

    def test_papers_told_may_be_passed_on(self):
        papers = (
            ("cell", "cellpapers", "cell_paper", "check_cell"), ("queue", "linepapers", "queue_paper", "check_queue"),
            ("stack", "stacks", "stack_paper", "check_stack"), ("heads", "heads", "heads_paper", "check_heads"),
            (("room", 2), "rooms", "room_paper", "check_room"), ("counter", "counters", "count_paper", "check_count"),
            ("tickets", "tickets", "ticket_paper", "check_tickets"), ("set", "flags", "flag_paper", "check_flags"),
        )
        for sort, module, tell, check in papers:
            module = importlib.import_module("shortbars." + module)
            for history in mixed(random.Random(132), (sort,), 10, 4, 60):
                paper = getattr(module, tell)(history)
                self.tells(paper[0], getattr(module, check), history, paper)

    def test_of_one_thing_alone(self):
        rooms = tuple(("room", size) for size in range(1, 10))
        good = {"cells": ("cell",), "cellpapers": ("cell",), "cellturns": ("cell",), "lines": ("queue",),
                "linepapers": ("queue",), "linerows": ("queue",), "spans": ("stack", "heads"), "piles": ("stack",),
                "stacks": ("stack",), "blocks": ("stack",), "stairs": ("heads",), "heads": ("heads",),
                "headseams": ("heads",), "rooms": rooms, "roomsize": rooms,
                "counters": ("counter",), "couldtell": ("counter",), "tickets": ("tickets",), "flags": ("set",),
                "hastold": ("set",), "fewest_queues": ("queue",), "queue_dealing": ("queue",),
                "check_queue_dealing": ("queue",), "fewest_cells": ("cell",), "cell_dealing": ("cell",),
                "check_cell_dealing": ("cell",), "cutsets": ("cell", "queue", "stack", "heads", "set") + rooms,
                "aboutface": ALL_SORTS, "readas": ALL_SORTS, "barecuts": tuple(sort for sort in ALL_SORTS if sort != "cell"),
                "gaps_of": ("stack", "heads"), "as_sort": ("queue", "stack", "heads")}
        for function, names in every_function():
            sorts = good.get(function.__name__, good.get(function.__module__.split(".")[1]))
            if sorts:
                self.refuses_sorts(function, sorts, *[None for _ in names[1:]])

    def test_ten_calls(self):
        rows = {"cell": ("write", "read"), "queue": ("put", "take"), "stack": ("put", "take"), "heads": ("put", "take"),
                ("room", 1): ("enter", "leave"), ("room", 9): ("enter", "leave"), "counter": ("add", "count"),
                "tickets": ("draw", "draw"), "set": ("join", "drop")}
        self.assertEqual(set(rows), set(SORTS))
        for sort, words in rows.items():
            row = [(word, at, None) if word in ONCE else (word, None, None if word == "add" else at)
                   for word in words for at in range(5)]
            for history in (((sort,), together(row)), ((sort,), behind(row))):
                for function, names in every_function():
                    for things in rows_of_things(names[1:]):
                        self.is_pure(function, history, *things)


if __name__ == "__main__":
    unittest.main()
