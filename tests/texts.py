"""Texts turned in some places, for the tests."""

import re

SIGNS = "0123456789 |:-+atmovesrlng~\nX"
DIGITS = "0123456789"


def turned_text(drawer, text, lines):
    """The text with a sign, a line or a number changed, exchanged, left out, doubled or put in; lines are a menu."""
    kind = drawer.number(3)
    if kind == 0:
        return "".join(turned_parts(drawer, list(text), SIGNS))
    if kind == 1:
        return "".join(turned_parts(drawer, text.splitlines(keepends=True), lines))
    # The parts at odd places are the numbers.
    parts = re.split("([0-9])", text)
    parts[1::2] = turned_parts(drawer, parts[1::2], DIGITS)
    return "".join(parts)


def turned_parts(drawer, parts, menu):
    """The parts, of which one is turned."""
    if not parts:
        return parts
    place, other = drawer.number(len(parts)), drawer.number(len(parts))
    kind = drawer.number(5)
    if kind == 0:
        parts[place] = drawer.one_of(menu)
    elif kind == 1:
        parts[place], parts[other] = parts[other], parts[place]
    elif kind == 2:
        parts[place] = ""
    elif kind == 3:
        parts[place] *= 2
    else:
        parts[place] += drawer.one_of(menu)
    return parts


def place_of(line, text):
    """In which part of the text the line at fault stands; "right" if it is None."""
    many = text.count("\n")
    if line is None:
        return "right"
    if line > many:
        return "behind"
    return "first" if line == 1 else "last" if line == many else "middle"


def digits_around(place, words):
    """The line of these words with each wrong thing in place of one of them, for lines that are of no form."""
    wrong = ("", "+0", "-0", "00", "0.", "x", "0 ", " 0", "~", "|", ":")
    return [" ".join((*words[:place], what, *words[place + 1:])) for what in wrong]
