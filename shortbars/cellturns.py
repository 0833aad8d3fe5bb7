"""TURNS of a cell: in which turns its MARKS can stand, and the EXPLANATIONS that come of these."""

from shortbars.calls import WORD, leads
from shortbars.cellpapers import cell_flaws, forced_wants, order_by_turn
from shortbars.cells import cell_calls, is_forced_by, is_mark, kins_of
from shortbars.errors import BadTurn
from shortbars.lineups import all_lineups, how_many_lineups, wants_of


def all_turns(history):
    """The tuple of all TURNS, ordered by the places that their MARKS have in MARKS."""
    calls = cell_calls(history)
    kins = kins_of(calls)
    return tuple(all_lineups(list(kins), forced_wants(calls, kins)))


def order_by(history, turn):
    """The EXPLANATION with this TURN in which the "reads" of each KIN stand by their numbers."""
    calls = cell_calls(history)
    kins = kins_of(calls)
    if not _is_turn(calls, kins, turn) or cell_flaws(calls):
        raise BadTurn(turn)
    return order_by_turn(calls, kins, turn)


def _is_turn(calls, kins, value):
    if not isinstance(value, tuple) or len(value) != len(kins):
        return False
    if not all(is_mark(kins, mark) for mark in value) or len(set(value)) != len(value):
        return False
    return not any(is_forced_by(calls, kins, far, mark) for at, mark in enumerate(value) for far in value[at + 1:])


def cell_count(history):
    """How many EXPLANATIONS there are."""
    calls = cell_calls(history)
    if cell_flaws(calls):
        return 0
    kins = kins_of(calls)
    count = how_many_lineups(forced_wants(calls, kins))
    for kin in kins.values():
        count = count * how_many_lineups(_read_wants(calls, kin))
    return count


def _read_wants(calls, kin):
    """What the "reads" of a KIN, by their numbers in it, want to stand ahead of them."""
    reads = [calls[number] for number in kin if calls[number][WORD] == "read"]
    pairs = [(at, behind) for at, call in enumerate(reads) for behind, other in enumerate(reads)
             if leads(call, other)]
    return wants_of(len(reads), pairs)


def is_tight(history):
    """Whether no two EXPLANATIONS have TURNS that are unlike."""
    calls = cell_calls(history)
    if cell_flaws(calls):
        return True
    return how_many_lineups(forced_wants(calls, kins_of(calls))) == 1
