"""Point 11: routines written and read again."""

import unittest

from riffles.errors import BadText
from riffles.moves import Cut, Deal, Riffle, Turn, Under, Weave, done_all
from riffles.texts import read, written
from tests.samples import fitting, mingled, promptly

# What each move is made of, beside the text that it is written as.
WRITTEN = [(Turn, (), "turn"), (Under, (), "under"), (Weave, (0,), "weave 0"), (Weave, (1,), "weave 1")]
WRITTEN.extend((Cut, (many,), "cut " + str(many)) for many in range(61))
WRITTEN.extend((Deal, (piles,), "deal " + str(piles)) for piles in range(1, 61))
WRITTEN.extend((Riffle, (word,), "riffle " + word) for word in
               ("a", "b", "aa", "ab", "ba", "bb", "abba", "a" * 60, "b" * 60, "ab" * 30, "abb" * 20, "a" * 59))

UNREAD = [
    # Needless noughts, signs of a number, none at all.
    "cut 00", "cut 01", "cut 007", "deal 01", "deal 004", "weave 00", "weave 01", "cut +1", "cut -0", "cut -1", "deal +1",
    "cut", "cut ", "deal", "deal ", "weave", "weave ", "riffle", "riffle ", "cut 1.0", "cut 1e1", "cut 1_0", "cut 0x1",
    "cut 0b1", "cut 3a", "cut a", "cut many", "cut None", "cut True", "deal one", "weave 0.0", "weave True", "cut 1,2",
    # Beyond the bounds, moves that can't be made.
    "cut 61", "cut 99", "cut 100", "cut 600", "cut " + "9" * 10000, "cut 1" + "0" * 5000, "deal 0", "deal 61", "deal 100",
    "weave 2", "weave 10", "weave 11", "weave 60", "riffle c", "riffle abc", "riffle AB", "riffle A", "riffle 01",
    "riffle " + "a" * 61, "riffle " + "ab" * 31, "riffle a b", "riffle ab;", "riffle;", "move", "shuffle", "riffles ab",
    # Blanks, line feeds and others.
    " ", "  ", "\n", "\t", "\r", "\0", "\ufeff", " turn", "turn ", "turn\n", "\nturn", "turn\r\n", "turn\t", "\tturn",
    "turn\0", "turn  ", "cut  3", "cut 3 ", " cut 3", "cut\t3", "cut\n3", "cut 3\n", "cut3", "cut\u00a03", "cut\u20033",
    "riffle  ab", "riffle ab ", "riffle ab\n", "riffleab", "riffle\tab", "riffle\nab", "weave0", "weave  0", "weave 0\n",
    "under\n", "under ", "un der", "deal 4\n", "deal  4", "deal4", "c ut 3", "\ufeffturn", "turn\u200b", "cut 1 2",
    # Signs too many or too few, other words, other letters.
    "tur", "turnn", "urn", "Turn", "TURN", "turn()", "turn 0", "turn 1", "turn turn", "under 1", "Under", "unde", "Cut 3",
    "CUT 3", "cuts 3", "cu 3", "cut(3)", "cut: 3", "cut=3", "Deal 4", "deals 4", "dea 4", "Weave 0", "weaves 0", "weav 0",
    "Riffle ab", "riffl ab", "riffle 'ab'", "riffle \"ab\"", "'turn'", "[]", "None", "0", "3", "abba", "a", "#", ".", ",",
    # Between the moves.
    ";", "; ", " ;", " ; ", ";;", "; ; ", "turn;", "turn; ", ";turn", "; turn", "turn;turn", "turn ;turn", "turn ; turn",
    "turn;  turn", "turn;\tturn", "turn;\nturn", "turn;\n turn", "turn; \nturn", "turn\nturn", "turn, turn", "turn turn",
    "turn;; turn", "turn; ; turn", "turn; turn;", "turn; turn; ", "; turn; turn", "turn: turn", "turn. turn",
    "turn;\u00a0turn", "turn\uff1b turn", "cut 3;deal 4", "cut 3 deal 4", "cut; 3", "riffle; ab", "riffle ab;ab",
    "riffle ab; ba", "cut 3; 4", "turn; cut", "turn; cut 61", "cut 61; turn", "turn; cut 3; deal 0", "turn; Turn",
    # Other scripts' figures and letters.
    "cut \u0663", "cut \uff13", "cut \u00b3", "cut \u2462", "cut \u0967", "cut 1\u0660", "deal \u0664", "deal \uff14",
    "weave \u0660", "weave \u0661", "weave \uff10", "weave \u00b9", "cut \u2082", "cut \U0001d7d1", "\u0441ut 3",
    "t\u016brn", "turn\u0301", "riffle \u0430", "riffle \uff41", "riffle a\u0301", "\uff54urn", "\ud800", "turn\ud800",
]


def routines(cards):
    """Lists of moves for so many cards, none and all of them among these."""
    moves = fitting(cards)
    return [[], moves, moves[::-1], moves[::3], moves[-1:] * 5] + [[move] for move in moves]


class Written(unittest.TestCase):
    def test_each_sort(self):
        for sort, given, text in WRITTEN:
            self.assertEqual(written([sort(*given)]), text)

    def test_several(self):
        self.assertEqual(written([Cut(3), Turn(), Deal(4), Under(), Weave(0), Weave(1), Riffle("abba")]),
                         "cut 3; turn; deal 4; under; weave 0; weave 1; riffle abba")
        self.assertEqual(written([Turn(), Turn()]), "turn; turn")
        self.assertEqual(written([sort(*given) for sort, given, text in WRITTEN]), "; ".join(row[2] for row in WRITTEN))

    def test_none(self):
        self.assertEqual(written([]), "")

    def test_the_list_stands_as_it_was(self):
        moves = [Cut(3), Turn(), Riffle("ab")]
        kept = list(moves)
        written(moves)
        self.assertEqual(moves, kept)
        self.assertEqual([vars(move) for move in moves], [{"many": 3}, {}, {"word": "ab"}])


class Read(unittest.TestCase):
    def check_same(self, moves, sorts):
        self.assertIsInstance(moves, list)
        self.assertEqual([(type(move), tuple(vars(move).values())) for move in moves], sorts)

    def test_each_sort(self):
        for sort, given, text in WRITTEN:
            self.check_same(read(text), [(sort, given)])

    def test_several(self):
        self.check_same(read("cut 3; turn; deal 4; under; weave 0; weave 1; riffle abba"),
                        [(Cut, (3,)), (Turn, ()), (Deal, (4,)), (Under, ()), (Weave, (0,)), (Weave, (1,)),
                         (Riffle, ("abba",))])
        self.check_same(read("turn; turn"), [(Turn, ()), (Turn, ())])
        self.check_same(read("; ".join(row[2] for row in WRITTEN)), [row[:2] for row in WRITTEN])

    def test_none(self):
        self.assertEqual(read(""), [])

    def test_moves_that_do_not_fit_one_another_are_read(self):
        self.check_same(read("riffle ab; riffle aba; weave 1; cut 60"),
                        [(Riffle, ("ab",)), (Riffle, ("aba",)), (Weave, (1,)), (Cut, (60,))])

    def test_written_and_read_again(self):
        for cards in (1, 2, 3, 4, 5, 6, 31, 52, 59, 60):
            for moves in routines(cards):
                text = written(moves)
                again = read(text)
                order = mingled(cards)
                self.assertEqual(done_all(again, order), done_all(moves, order), text)
                self.assertEqual(written(again), text)

    def test_what_is_told_is_new(self):
        text = "cut 3; turn; riffle ab; weave 0; deal 2"
        first = read(text)
        first[0].many = 9
        first[2].word = "c"
        first[3].first = 1
        first[4].piles = 9
        first.pop()
        self.assertEqual(written(read(text)), text)
        none = read("")
        none.append(Turn())
        self.assertEqual(read(""), [])

    def test_long_routines(self):
        with promptly():
            moves = [Cut(1), Riffle("ab" * 30)] * 20000
            self.assertEqual(written(read(written(moves))), written(moves))


class NothingElseIsRead(unittest.TestCase):
    def unread(self, text):
        try:
            moves = read(text)
        except Exception as raised:
            self.assertIs(type(raised), BadText, repr(text)[:80])
        else:
            self.fail(f"{text[:80]!r} was read as {moves!r}")

    def test_by_hand(self):
        for text in UNREAD:
            self.unread(text)

    def test_wherever_it_stands(self):
        for text in UNREAD:
            self.unread("turn; " + text)
            self.unread(text + "; turn")
            self.unread("cut 3; " + text + "; weave 1")

    def test_a_sign_too_many_or_too_few(self):
        # A text one sign away from a routine is read only if it is written so itself.
        signs = "; abcdeilnrtuvw0169\n"
        parts = [text for sort, given, text in WRITTEN] + ["riffle " + word for word in ("aab", "aba", "abb", "bab")]
        for text in ("", "turn", "under", "cut 3", "cut 60", "deal 1", "weave 0", "riffle ab", "turn; cut 10", "turn; turn"):
            near = [text[:place] + text[place + 1:] for place in range(len(text))]
            near.extend(text[:place] + sign + text[place:] for place in range(len(text) + 1) for sign in signs)
            near.extend(text[:place] + sign + text[place + 1:] for place in range(len(text)) for sign in signs)
            for other in near:
                if other == "" or all(part in parts for part in other.split("; ")):
                    self.assertEqual(written(read(other)), other)
                else:
                    self.unread(other)

    def test_numbers_about_the_bounds(self):
        for number in range(-5, 200):
            for name, least, most in (("cut", 0, 60), ("deal", 1, 60), ("weave", 0, 1)):
                text = f"{name} {number}"
                if least <= number <= most:
                    self.assertEqual(written(read(text)), text)
                else:
                    self.unread(text)
                self.unread(f"{name} 0{number}")
                self.unread(f"{name} {number}0{number}")

    def test_words_about_the_bounds(self):
        for signs in range(130):
            for sign in "ab":
                text = "riffle " + sign * signs
                if 1 <= signs <= 60:
                    self.assertEqual(written(read(text)), text)
                else:
                    self.unread(text)

    def test_long_texts_promptly(self):
        with promptly():
            for text in ("cut " + "1" * 10 ** 6, "riffle " + "ab" * 10 ** 6, "; " * 10 ** 6, "x" * 10 ** 6, " " * 10 ** 6,
                         "turn; " * 10 ** 5, "cut 1 " * 10 ** 5):
                self.unread(text)


class Arguments(unittest.TestCase):
    def test_are_taken_by_their_names(self):
        self.assertEqual(written(moves=[Turn()]), "turn")
        self.assertEqual(read(text=""), [])


if __name__ == "__main__":
    unittest.main()
