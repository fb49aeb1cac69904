"""Lines: how they are read, and how answers are written [101] to [104]."""

from greywait.weights import weight_in
from greywait.words import is_name, number_of

MOST_NUMBER = 9999999999999999

# What stands behind a line's first word, where it is always as many words.
KINDS = {
    "come": ("name",),
    "hold": ("name", "number"),
    "change": ("number", "name"),
    "speed": ("name", "weight"),
    "fewer": ("number",),
    "tell": ("number",),
    "off": ("number",),
    "turns": ("number",),
    "now": (),
    "waiting": (),
    "held": (),
    "told": (),
    "run": (),
    "done": (),
    "state": ("number",),
    "last": ("number",),
    "order": ("number",),
    "next": (),
    "changes": ("number", "number"),
    "ever": (),
}
SORT_KINDS = ("name", "weight", "weight", "number", "number")


def simple_in(kind, word):
    if kind == "name":
        return word if is_name(word) else None
    if kind == "weight":
        return weight_in(word)
    return number_of(word, 0, MOST_NUMBER)


def end_in(word):
    parts = word.partition(":")
    number = simple_in("number", parts[0])
    return (number, parts[2]) if number is not None and parts[2] in ("done", "failed") else None


def sort_in(word):
    parts = word.split(":")
    if len(parts) != len(SORT_KINDS):
        return None
    things = [simple_in(kind, part) for kind, part in zip(SORT_KINDS, parts)]
    return None if any([thing is None for thing in things]) else tuple(things)


def thing_in(kind, word):
    if kind == "sort":
        return sort_in(word)
    return end_in(word) if kind == "end" else simple_in(kind, word)


def kinds_behind(word, many):
    if word == "house":
        # One sort stands there at least, so two words are asked for where there are fewer.
        return ["number", "sort"] + ["sort"] * (many - 2)
    if word == "pass":
        return ["number"] * min(many, 1) + ["end"] * (many - 1)
    return list(KINDS[word]) if word in KINDS else None


def has_twice(ends):
    return len(set([end[0] for end in ends])) < len(ends)


def line_read(line):
    if not isinstance(line, str):
        return None
    words = line.split(" ")
    kinds = kinds_behind(words[0], len(words) - 1)
    if kinds is None or len(kinds) != len(words) - 1:
        return None
    things = [thing_in(kind, word) for kind, word in zip(kinds, words[1:])]
    if any([thing is None for thing in things]):
        return None
    if words[0] == "pass" and has_twice(things[1:]):
        return None
    return (words[0], things)


def numbers_text(numbers):
    return " ".join([str(number) for number in numbers]) if len(numbers) > 0 else "-"


def parted_text(texts):
    return "; ".join(texts) if len(texts) > 0 else "-"


def row_text(row):
    turn = row[0]
    numbers = numbers_text(row[1])
    return f"{turn}: {numbers}"


def rows_text(rows):
    return parted_text([row_text(row) for row in rows])


def verdict_text(verdict):
    number = verdict.number
    if verdict.granted():
        return "granted" if number is None else f"granted {number}"
    due = verdict.due
    turn = verdict.turn
    return f"late {number} told {due} over {turn}"
