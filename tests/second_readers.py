"""Other readers of texts, from points 23 and 24 alone: they tell the first line at fault, or what a text tells."""

import re
from itertools import count

from towerduel.duels import after

AT = re.compile("at ([0-9]) :((?: [0-9])*)")
MOVE = re.compile("move ([0-9])")
STATE = re.compile("state ([01]) ([012]) ([01])")
LETTERS = re.compile("letters ([123])")
ONE_MOVE = "[0-9](?: [0-9]){0,2}"
ON = re.compile(f"on ([0-9]) ([0-9]) go ({ONE_MOVE}(?: [|] {ONE_MOVE}){{0,2}})")


class Fault(Exception):
    """The number of a line is its argument."""


def journal_told(duel, text):
    """The position at the beginning, the numbers of the moves and the position behind them, or the line at fault."""
    start = position = None
    moves = []
    rest = text
    for number in count(1):
        if number > 1 and not rest:
            return start, tuple(moves), position
        line, feed, rest = rest.partition("\n")
        found = (MOVE if start else AT).fullmatch(line)
        if not feed or not found:
            return number
        if not start:
            state, stack = int(found[1]), tuple(map(int, found[2].split()))
            if state >= len(duel.sides) or any(letter >= duel.letters for letter in stack):
                return number
            start = position = state, stack
            continue
        state, stack = position
        row = duel.row(state, stack[0]) if stack else ()
        if int(found[1]) >= len(row):
            return number
        moves.append(int(found[1]))
        position = after(stack, row[moves[-1]])


def duel_told(text):
    """The parts of the duel, or the line at fault."""
    lines = text.split("\n")
    told = {"states": [], "letters": None, "rows": {}}
    for number, line in enumerate(lines[:-1], start=1):
        try:
            take(line, told)
        except Fault:
            return number
    if lines[-1] or not told["letters"]:
        return len(lines)
    return (*zip(*told["states"]), told["letters"], told["rows"])


def take(line, told):
    if found := STATE.fullmatch(line):
        if told["letters"] or len(told["states"]) == 3:
            raise Fault
        told["states"].append(tuple(map(int, found.groups())))
    elif found := LETTERS.fullmatch(line):
        if told["letters"] or not told["states"]:
            raise Fault
        told["letters"] = int(found[1])
    elif found := ON.fullmatch(line):
        state, letter = int(found[1]), int(found[2])
        moves = [tuple(map(int, move.split())) for move in found[3].split(" | ")]
        states = range(len(told["states"]))
        letters = range(told["letters"] or 0)
        if state not in states or letter not in letters:
            raise Fault
        if told["rows"] and (state, letter) <= max(told["rows"]):
            raise Fault
        if not all(new in states and set(word) <= set(letters) for new, *word in moves):
            raise Fault
        if len(set(moves)) < len(moves):
            raise Fault
        told["rows"][state, letter] = tuple((new, tuple(word)) for new, *word in moves)
    else:
        raise Fault
