"""The whole document: histories of several sorts put through several parts, one behind the other."""

import random
import unittest

import oracle
from checks import Checks, alike
from samples import ALL_SORTS, grown, mixed, spoiled
from shortbars.aboutface import faced_about, order_about
from shortbars.answers import all_answers, is_narrowed, with_answer
from shortbars.barecuts import bare_places, cut_in_two
from shortbars.calls import calls_of_lot, history_of_thing, need_history
from shortbars.cellpapers import cell_paper, check_cell
from shortbars.counters import check_count, count_paper
from shortbars.cutsets import is_cut, least_cuts
from shortbars.desk import Desk
from shortbars.flags import check_flags, flag_paper
from shortbars.heads import check_heads, heads_paper
from shortbars.judge import judged
from shortbars.linepapers import check_queue, queue_paper
from shortbars.places import explanation_at, how_many, places_of
from shortbars.readas import read_as
from shortbars.rooms import check_room, room_paper
from shortbars.runs import is_explanation, states_by, told_by
from shortbars.search import first_explanation, is_explained
from shortbars.stacks import check_stack, stack_paper
from shortbars.standings import count_from, is_live, last_states, standings
from shortbars.sure import is_surely_ahead, sure_pairs, sure_paper
from shortbars.terms import history_of
from shortbars.texts import history_text, read_history, read_term, term_text
from shortbars.thin import plain_form, quiet_places, without_values
from shortbars.tickets import check_tickets, ticket_paper
from shortbars.together import first_parts, is_each_explained, laid, parts_by
from shortbars.watch import Watch

PAPERS = {
    "cell": (cell_paper, check_cell), "queue": (queue_paper, check_queue), "stack": (stack_paper, check_stack),
    "heads": (heads_paper, check_heads), "counter": (count_paper, check_count), "tickets": (ticket_paper, check_tickets),
    "set": (flag_paper, check_flags),
}
SORTS = ("cell", "queue", "stack", "heads", "counter", "tickets", "set", ("room", 1), ("room", 2), ("room", 9))
MIXES = (("cell", "queue"), ("stack", "heads", "set"), (("room", 1), "counter"), ("tickets", "queue", "set", "cell"))


def ones(seed, times, most=6):
    """Histories of one thing of each sort, explained ones and others."""
    for at, sort in enumerate(SORTS):
        chance = random.Random(seed + at)
        yield (sort,), ()
        yield from mixed(chance, (sort,), most, 3, times)
        for _ in range(times):
            history = grown(chance, (sort,), most, 4, chance.choice((1, 2, 9, 25)))
            yield history if chance.randrange(2) else spoiled(chance, history)


def several(seed, times, most=7):
    for at, sorts in enumerate(MIXES):
        yield sorts, ()
        yield from mixed(random.Random(seed + at), sorts, most, 3, times)


def paper_of(history):
    tell, check = PAPERS.get(history[0][0], (room_paper, check_room))
    paper = tell(history)
    return paper, check(history, paper)


def entry(thing):
    return "-" if thing is None else str(thing)


class TestWhetherItIsExplained(Checks, unittest.TestCase):
    def test_all_parts_tell_the_same(self):
        told = set()
        for history in ones(2000, 25):
            explained = oracle.explanations(history) != []
            paper, word = paper_of(history)
            self.assertEqual(paper[0], word)
            first = ((), oracle.run(history, ())[1])
            self.assertEqual({
                explained, word == "order", is_explained(history), first_explanation(history) is not None, how_many(history) > 0,
                standings(history) != (), is_live(history, first), last_states(history) != (), is_each_explained(history)}, {explained})
            if history[0][0] not in ("counter", "tickets"):
                self.assertEqual(least_cuts(history) == ((),), explained)
            text = term_text(("history", history))
            self.tells((explained, True), judged, f"{text}\nexplained\ncount {how_many(history)}")
            told.add((history[0], explained))
        self.assertEqual(len(told), 2 * len(SORTS))

    def test_led_by_its_moments(self):
        told = set()
        for history in list(ones(2020, 20)) + list(several(2040, 25)):
            plain = plain_form(history)
            watch = Watch(plain[0])
            text = history_text((plain[0], ()))
            desk = Desk(text)
            # The number of each call is its place, as the begins ascend.
            steps = {call[0]: (None, number) for number, call in enumerate(plain[1])}
            steps.update({call[1]: (call[5], number) for number, call in enumerate(plain[1])})
            for moment in sorted(steps):
                answer, number = steps[moment]
                _, end, thing, word, given, _ = plain[1][number]
                if end == moment:
                    watch.end(number, answer)
                    self.tells("good" if watch.is_good else "bad", desk.say, f"end {number} {entry(answer)}")
                else:
                    self.tells(number, watch.begin, thing, word, given)
                    self.tells(str(number), desk.say, f"begin {thing} {word} {entry(given)}")
            explained = oracle.explanations(history) != []
            self.assertTrue(alike(watch.history, plain))
            self.assertTrue(alike(desk.watch.history, plain))
            self.assertTrue(alike(watch.is_good, explained))
            told.add((history[0], explained))
        self.assertEqual(len(told), 2 * (len(SORTS) + len(MIXES)))


class TestOneBehindTheOther(Checks, unittest.TestCase):
    def test_cut_away_and_put_through(self):
        # What is left without a least cut is explained, turned about, read as text, and told by words.
        seen = set()
        for history in ones(2060, 12):
            sort = history[0][0]
            if sort in ("counter", "tickets"):
                continue
            for some in least_cuts(history):
                self.tells(True, is_cut, history, some)
                rest = without_values(history, 0, some)
                self.assertEqual(paper_of(rest)[1], "order")
                term = ("without", ("history", history), 0, some)
                self.tells(rest, history_of, term)
                self.tells(rest, history_of, read_term(term_text(term)))
                self.tells(rest, read_history, history_text(rest))
                turned = faced_about(rest)
                if turned is not None:
                    row = order_about(rest, explanation_at(rest, how_many(rest) - 1))
                    self.assertTrue(is_explanation(turned, row))
                    self.assertEqual(how_many(turned), how_many(rest))
                    seen.add(sort)
        self.assertEqual(len(seen), 6)

    def test_cut_in_two_and_laid_behind(self):
        seen = set()
        for history in ones(2080, 90):
            if history[0][0] == "cell":
                continue
            for place in bare_places(history):
                self.assertIn(place, quiet_places(history))
                one, two = cut_in_two(history, place)
                self.tells(one, calls_of_lot, history, tuple(range(place)))
                if two is not None and how_many(one) > 0 and how_many(two) > 0:
                    # Each explanation of the one goes with each of the other one.
                    self.assertEqual(how_many(history), how_many(one) * how_many(two))
                    row = first_explanation(one) + tuple(place + number for number in first_explanation(two))
                    self.tells(row, first_explanation, history)
                    if history[0][0] not in ("counter", "tickets"):
                        self.tells(plain_form(history), lambda: plain_form(history_of(("behind", ("history", one), ("history", two)))))
                    seen.add(history[0])
                else:
                    self.tells(0, how_many, history)
        self.assertEqual(len(seen), len(SORTS) - 1)

    def test_each_thing_alone_and_all_together(self):
        told = set()
        for history in several(2100, 30):
            alone = [history_of_thing(history, thing) for thing in range(len(history[0]))]
            explained = all(how_many(one) > 0 for one in alone)
            self.assertEqual(is_explained(history), explained)
            self.tells(tuple(history_of(("thing", ("history", history), thing)) for thing in range(len(alone))), lambda: tuple(alone))
            told.add((history[0], explained))
            parts = first_parts(history)
            if parts is None:
                continue
            row = laid(history, parts)
            self.assertTrue(is_explanation(history, row))
            self.tells(parts, parts_by, history, row)
            self.assertIn(states_by(history, row), last_states(history))
            self.assertEqual(told_by(history, row), tuple((True, history[1][number][5]) for number in row))
            for number in range(len(history[1])):
                self.assertIn(row.index(number), places_of(history, number))
            for one, two in sure_pairs(history):
                self.assertLess(row.index(one), row.index(two))
            first = ((), oracle.run(history, ())[1])
            self.assertEqual(count_from(history, first), how_many(history))
            # Beside each other they are what they are together, each of its moments being its own.
            term = ("history", alone[0])
            for one in alone[1:]:
                term = ("beside", term, ("history", one))
            self.tells(history, history_of, term)
        self.assertEqual(len(told), 2 * len(MIXES))

    def test_read_as_another_sort(self):
        for history in ones(2120, 20):
            for sort in ALL_SORTS:
                other = read_as(history, sort)
                if other is None:
                    continue
                need_history(other)
                self.assertEqual(other[0], (sort,))
                self.tells(paper_of(other)[1] == "order", is_explained, other)
                self.tells(other, read_history, history_text(other))
                self.assertEqual([call[:2] for call in other[1]], [call[:2] for call in history[1]])

    def test_one_call_more(self):
        # What is answered can be asked with; the history with it is one in which the others go on as before.
        seen = set()
        for history in list(ones(2140, 8)) + list(several(2160, 8, 5)):
            top = max([call[1] for call in history[1]], default=0)
            for word, thing in [(word, thing) for thing, sort in enumerate(history[0])
                                for word in ("read", "take", "count", "draw", "has") if word in self.words(sort)]:
                question = (top + 1, top + 2, thing, word, 2 if word == "has" else None)
                for told in all_answers(history, question):
                    more = with_answer(history, question, told)
                    self.assertTrue(is_explained(more))
                    self.assertTrue(is_narrowed(more, more))
                    number = len(more[1]) - 1
                    for other in range(number):
                        self.tells(True, is_surely_ahead, more, other, number)
                        self.tells(("sure",), sure_paper, more, other, number)
                    self.tells((number,), places_of, more, number)
                    seen.add(word)
        self.assertEqual(seen, {"read", "take", "count", "draw", "has"})

    def words(self, sort):
        return {"cell": ("read",), "counter": ("count",), "tickets": ("draw",), "set": ("has",)}.get(sort, ("take",)) \
            if not isinstance(sort, tuple) else ()


if __name__ == "__main__":
    unittest.main()
