"""Routines written as texts, and read again."""

from riffles.checks import MOST_CARDS
from riffles.errors import BadMove, BadText
from riffles.moves import Cut, Deal, Riffle, Turn, Under, Weave, check_moves


def written(moves):
    check_moves(moves)
    return "; ".join([move_written(move) for move in moves])


def read(text):
    if not isinstance(text, str):
        raise BadText("no text")
    if text == "":
        return []
    return [move_read(part) for part in text.split("; ")]


def move_written(move):
    if isinstance(move, Cut):
        return "cut " + str(move.many)
    if isinstance(move, Turn):
        return "turn"
    if isinstance(move, Deal):
        return "deal " + str(move.piles)
    if isinstance(move, Under):
        return "under"
    if isinstance(move, Weave):
        return "weave " + str(move.first)
    if isinstance(move, Riffle):
        return "riffle " + move.word
    raise BadMove("a bare Move tells no move")


# The bounds are told by the moves alone: what can't be made can't have been written.
def move_read(part):
    try:
        return move_made(part)
    except BadMove:
        raise BadText("a move that can't be made") from None


def move_made(part):
    if part == "turn":
        return Turn()
    if part == "under":
        return Under()
    pieces = part.partition(" ")
    if pieces[0] == "cut":
        return Cut(number_read(pieces[2]))
    if pieces[0] == "deal":
        return Deal(number_read(pieces[2]))
    if pieces[0] == "weave":
        return Weave(number_read(pieces[2]))
    if pieces[0] == "riffle":
        return Riffle(pieces[2])
    raise BadText("no move is written so")


# Held against each number as it is written: int would take blanks, needless noughts and other scripts' figures too.
def number_read(figures):
    for number in range(MOST_CARDS + 1):
        if str(number) == figures:
            return number
    raise BadText("no number from 0 to 60, in figures without a needless nought")
