"""What the document says of texts, straight from its words, for the tests to compare with.

Words are looked at one by one, with a pile of what is still wanted; where one cannot stand the number of
its line and its own are told.
"""

import re

from samples import WORDS

INTEGER = re.compile(r"0|[1-9][0-9]{0,30}")
SORTS = ("cell", "queue", "stack", "heads", "counter", "tickets", "set")
CALL = ("integer", "integer", "integer", "word", "entry", "entry")
ALL_WORDS = [word for words in WORDS.values() for word in words]
TERMS = {"history": ("sorts",), "beside": ("term", "term"), "behind": ("term", "term"), "shifted": ("integer", "term"),
         "plain": ("term",), "thing": ("integer", "term"), "without": ("integer", "some", "term")}
SAYINGS = {"explained": 0, "calls": 1, "ahead": 2, "surely": 2, "quiet": 1, "count": 1}


def sort_text(sort):
    return f"{sort[0]} {sort[1]}" if isinstance(sort, tuple) else sort


def call_text(call):
    return " ".join("-" if part is None else str(part) for part in call)


def history_text(history):
    sorts, calls = history
    return "\n".join([" ".join(sort_text(sort) for sort in sorts)] + [call_text(call) for call in calls])


def term_text(term):
    word = term[0]
    if word == "history":
        sorts, calls = term[1]
        return " ".join([word, str(len(sorts))] + [sort_text(sort) for sort in sorts] + [str(len(calls))]
                        + [call_text(call) for call in calls])
    if word == "shifted":
        return f"{word} {term[2]} {term_text(term[1])}"
    if word == "thing":
        return f"{word} {term[2]} {term_text(term[1])}"
    if word == "without":
        return " ".join([word, str(term[2]), str(len(term[3]))] + [str(value) for value in term[3]] + [term_text(term[1])])
    return " ".join([word] + [term_text(kid) for kid in term[1:]])


def is_number(word, least, most):
    return INTEGER.fullmatch(word) is not None and least <= int(word) <= most


def wrong_in_line(words, wanted):
    """The number of the first word that cannot stand, wanted being what the line has to have; None if all can."""
    wanted = list(wanted)
    terms = 0
    for at, word in enumerate(words + [None]):
        if not wanted:
            return None if word is None else at
        want = wanted.pop(0)
        if word is None:
            return at
        if want == "term":
            if terms == 20 or word not in TERMS:
                return at
            terms += 1
            wanted = list(TERMS[word]) + wanted
        elif want == "integer" and not INTEGER.fullmatch(word):
            return at
        elif want == "entry" and word != "-" and not INTEGER.fullmatch(word):
            return at
        elif want == "word" and word not in ALL_WORDS:
            return at
        elif want == "room" and not is_number(word, 1, 9):
            return at
        elif want == "sorts":
            if not is_number(word, 1, 4):
                return at
            wanted = ["sort"] * int(word) + ["calls"] + wanted
        elif want == "calls":
            if not is_number(word, 0, 10):
                return at
            wanted = list(CALL) * int(word) + wanted
        elif want == "some":
            if not is_number(word, 0, 10):
                return at
            wanted = ["integer"] * int(word) + wanted
        elif want == "sort":
            if word != "room" and word not in SORTS:
                return at
            wanted = (["room"] if word == "room" else []) + wanted
        elif want == "saying":
            if word == "first":
                wanted = ["integer"] * (len(words) - 1)
            elif word in SAYINGS:
                wanted = ["integer"] * SAYINGS[word]
            else:
                return at
    return None


def sorts_wanted(words):
    """What a line of sorts has to have: as many as it has, from one to four."""
    many = len([word for at, word in enumerate(words) if at == 0 or words[at - 1] != "room"])
    return ["sort"] * max(1, min(many, 4))


def wrong_in_history(text):
    """(line, word) where reading a history's text refuses it, None if it has the form."""
    lines = [line.split(" ") for line in text.split("\n")]
    for number, words in enumerate(lines):
        if number > 10:
            return number, 0
        at = wrong_in_line(words, CALL if number else sorts_wanted(words))
        if at is not None:
            return number, at
    return None


def wrong_in_term(text):
    lines = [line.split(" ") for line in text.split("\n")]
    at = wrong_in_line(lines[0], ["term"])
    if at is not None:
        return 0, at
    return (1, 0) if len(lines) > 1 else None


def wrong_in_sheet(text):
    lines = [line.split(" ") for line in text.split("\n")]
    for number, words in enumerate(lines):
        at = wrong_in_line(words, ["saying"] if number else ["term"])
        if at is not None:
            return number, at
    return None


SOME_WORDS = ("", "-", "0", "1", "4", "5", "9", "10", "11", "00", "01", "-1", "+1", "1.0", "1_0", "0x1", "x", "put", "take", "room",
              "queue", "set", "history", "plain", "beside", "without", "first", "explained", "9" * 31, "9" * 32, "1" + "0" * 31,
              "Queue", "put ", "\t", "-0", "--", "1\t")


def spoilt(chance, text):
    """The text with something else in the place of some word, one more or one less, or a line more or less."""
    lines = [line.split(" ") for line in text.split("\n")]
    line = chance.randrange(len(lines))
    at = chance.randrange(len(lines[line]))
    kind = chance.randrange(8)
    if kind < 3:
        lines[line][at] = chance.choice(SOME_WORDS)
    elif kind == 3:
        del lines[line][at]
    elif kind == 4:
        lines[line].insert(at, chance.choice(SOME_WORDS))
    elif kind == 5:
        lines[line].append(chance.choice(SOME_WORDS))
    elif kind == 6:
        lines.append(chance.choice(([""], list(lines[-1]), ["0"])))
    else:
        lines[line] = lines[line][:at]
    return "\n".join(" ".join(words) for words in lines)
