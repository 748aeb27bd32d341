import copy
import unittest

import samples
from samples import BOUND, ONE, chain
from viewwood import errors
from viewwood.houses import is_house
from viewwood.housetexts import read_house, shown_house

OTHERS = (errors.NoBox, errors.NoDeed, errors.NoChange, errors.NoRow)
FIRST_WORDS = ("part", "box", "work", "plain", "set", "hand", "change", "end", "draw", "with", "give", "when", "else",
               "each")

# Rows of each first word that are as told, by themselves.
WHOLE = {"part": "part z", "box": "box z 1", "work": "work z 1", "plain": "plain z -", "set": "set z 1",
         "hand": "hand z 1 on", "change": "change a set 1", "end": "end", "draw": "draw q -", "with": "with z 1",
         "give": "give z 1 -", "when": "when 1", "else": "else", "each": "each z 1"}

# Reckonings, of a part with a box a, and their words.
SHOWN = (
    (("num", 0), "0"), (("num", -1), "-1"), (("num", 10), "10"), (("num", 999999999), "999999999"),
    (("num", BOUND), "1000000000"), (("num", -BOUND), "-1000000000"),
    (("take", "x"), "take x"), (("box", "a"), "box a"), (("down", "abcdefgh"), "down abcdefgh"),
    (("add", ONE, ("num", 2)), "add 1 2"),
    (("times", ("box", "a"), ("num", -2)), "times box a -2"),
    (("less", ("num", 3), ("take", "x")), "less 3 take x"),
    (("pick", ("box", "a"), ("num", 2), ("down", "y")), "pick box a 2 down y"),
    (("add", ("add", ONE, ("num", 2)), ("add", ("num", 3), ("num", 4))), "add add 1 2 add 3 4"),
    (("pick", ("pick", ONE, ("num", 2), ("num", 3)), ("less", ("num", 4), ("num", 5)), ("num", 6)),
     "pick pick 1 2 3 less 4 5 6"),
    (("times", ("num", 7), ("pick", ("num", 8), ("take", "x"), ("times", ("num", 9), ("num", 10)))),
     "times 7 pick 8 take x times 9 10"),
)


def part(*lines, boxes=(), works=()):
    return ("p", boxes, works, lines)


def plain(key=None, tag="t", sets=(), hands=(), lines=()):
    return ("plain", key, tag, sets, hands, lines)


class Texts(unittest.TestCase):
    def shows(self, house, rows):
        """That the house is shown by these rows, and they are read as it."""
        self.assertEqual(repr(shown_house(house)), repr(rows))
        self.assertEqual(repr(read_house(rows)), repr(house))

    def line_shows(self, line, rows, boxes=("a",)):
        head = ["part p"] + [f"box {name} 0" for name in boxes]
        house = (part(line, boxes=tuple((name, 0) for name in boxes)), ("q", (), (), ()))
        self.shows(house, head + rows + ["part q"])

    def refused(self, rows, line, word):
        with self.assertRaises(errors.NoText) as caught:
            read_house(rows)
        told = caught.exception
        self.assertEqual(repr((told.line, told.word)), repr((line, word)), rows)
        self.assertIsInstance(told, errors.ViewError)
        self.assertNotIsInstance(told, OTHERS)


class TestRows(Texts):
    def test_parts(self):
        self.shows((part(),), ["part p"])
        self.shows((("a", (), (), ()), ("b", (), (), ()), ("c", (), (), ())), ["part a", "part b", "part c"])
        self.shows(tuple((name, (), (), ()) for name in "fedcba"), [f"part {name}" for name in "fedcba"])

    def test_boxes(self):
        boxes = (("b", 5), ("a", -7), ("d", BOUND), ("c", -BOUND))
        self.shows((part(boxes=boxes),), ["part p", "box b 5", "box a -7", "box d 1000000000", "box c -1000000000"])
        self.shows((part(boxes=(("a", 0),)),), ["part p", "box a 0"])

    def test_works(self):
        self.shows((part(works=(("z", ONE), ("a", ("take", "b")))),), ["part p", "work z 1", "work a take b"])
        self.shows((part(plain(), boxes=(("a", 1),), works=(("w", ("box", "a")),)), ("q", (), (), ())),
                   ["part p", "box a 1", "work w box a", "plain t -", "end", "part q"])

    def test_plain(self):
        self.line_shows(plain(), ["plain t -", "end"])
        self.line_shows(plain(("num", 4), "page"), ["plain page 4", "end"])
        self.line_shows(plain(lines=(plain(), plain(ONE))),
                        ["plain t -", "plain t -", "end", "plain t 1", "end", "end"])

    def test_sets(self):
        self.line_shows(plain(sets=(("z", ONE), ("a", ("add", ONE, ("box", "a"))))),
                        ["plain t -", "set z 1", "set a add 1 box a", "end"])

    def test_hands(self):
        hands = (("z", 3, True, ()), ("a", 1, False, (("a", "set", ONE), ("b", "add", ("take", "x")),
                                                      ("a", "times", ("num", -2)))), ("m", 2, True, ()))
        self.line_shows(plain(hands=hands),
                        ["plain t -", "hand z 3 last", "hand a 1 on", "change a set 1", "change b add take x",
                         "change a times -2", "hand m 2 last", "end"], ("a", "b"))

    def test_sets_hands_and_lines(self):
        hands = (("e", 2, False, (("a", "set", ONE),)),)
        line = plain(("box", "a"), "t", (("s", ONE),), hands, (("part", None, "q", ()),))
        self.line_shows(line, ["plain t box a", "set s 1", "hand e 2 on", "change a set 1", "draw q -", "end"])

    def test_draw(self):
        self.line_shows(("part", None, "q", ()), ["draw q -"])
        self.line_shows(("part", ("box", "a"), "q", (("z", ONE), ("a", ("down", "x")))),
                        ["draw q box a", "with z 1", "with a down x"])
        self.line_shows(plain(lines=(("part", None, "q", (("x", ONE),)), ("part", ONE, "q", ()))),
                        ["plain t -", "draw q -", "with x 1", "draw q 1", "end"])

    def test_give(self):
        self.line_shows(("give", None, "g", ONE, ()), ["give g 1 -", "end"])
        self.line_shows(("give", ("add", ONE, ("num", 2)), "g", ("less", ("box", "a"), ("num", 3)), (plain(),)),
                        ["give g less box a 3 add 1 2", "plain t -", "end", "end"])

    def test_when(self):
        self.line_shows(("when", ONE, (), ()), ["when 1", "else", "end"])
        self.line_shows(("when", ("box", "a"), (plain(),), ()), ["when box a", "plain t -", "end", "else", "end"])
        self.line_shows(("when", ONE, (), (plain(),)), ["when 1", "else", "plain t -", "end", "end"])
        inner = ("when", ("num", 2), (), ())
        self.line_shows(("when", ONE, (inner, inner), (inner,)),
                        ["when 1", "when 2", "else", "end", "when 2", "else", "end",
                         "else", "when 2", "else", "end", "end"])

    def test_each(self):
        self.line_shows(("each", "i", ONE, ()), ["each i 1", "end"])
        self.line_shows(("each", "i", ("box", "a"), (plain(("turn", "i")), ("each", "j", ("turn", "i"), ()))),
                        ["each i box a", "plain t turn i", "end", "each j turn i", "end", "end"])

    def test_reckonings(self):
        for reckoning, words in SHOWN:
            self.line_shows(plain(reckoning), [f"plain t {words}", "end"])
            self.line_shows(plain(sets=(("x", reckoning),)), ["plain t -", f"set x {words}", "end"])
            self.line_shows(plain(hands=(("e", 1, True, (("a", "add", reckoning),)),)),
                            ["plain t -", "hand e 1 last", f"change a add {words}", "end"])
            self.line_shows(("part", reckoning, "q", (("x", reckoning),)), [f"draw q {words}", f"with x {words}"])
            self.line_shows(("give", reckoning, "g", reckoning, ()), [f"give g {words} {words}", "end"])
            self.line_shows(("give", None, "g", reckoning, ()), [f"give g {words} -", "end"])
            self.line_shows(("when", reckoning, (), ()), [f"when {words}", "else", "end"])
            self.line_shows(("each", "i", reckoning, ()), [f"each i {words}", "end"])
            self.shows((part(boxes=(("a", 0),), works=(("w", reckoning),)),), ["part p", "box a 0", f"work w {words}"])

    def test_names_that_are_words_of_the_rows(self):
        names = FIRST_WORDS + ("take", "down", "turn", "add", "times", "less", "pick", "num", "last", "on")
        for name in names:
            inner = plain(("turn", name), name, ((name, ("box", name)),),
                          ((name, 1, True, ((name, "set", ("take", name)),)),),
                          (("give", ("box", name), name, ("down", name), ()), ("part", None, "zz", ((name, ONE),))))
            house = ((name, ((name, 1),), ((name, ("box", name)),), (("each", name, ("box", name), (inner,)),)),
                     ("zz", (), (), ()))
            self.shows(house, [
                f"part {name}", f"box {name} 1", f"work {name} box {name}", f"each {name} box {name}",
                f"plain {name} turn {name}", f"set {name} box {name}", f"hand {name} 1 last",
                f"change {name} set take {name}", f"give {name} down {name} box {name}", "end", "draw zz -",
                f"with {name} 1", "end", "end", "part zz"])

    def test_a_part_that_is_called_when(self):
        self.shows((("when", (), (), ()),), ["part when"])
        self.shows((("when", (), (), (plain(),)), ("end", (), (), (plain(),))),
                   ["part when", "plain t -", "end", "part end", "plain t -", "end"])
        self.refused(["part when", "else"], 1, 0)
        self.refused(["part when", "end"], 1, 0)

    def test_the_sample(self):
        self.shows(samples.HOUSE, samples.ROWS)

    def test_made_houses(self):
        for start in range(150):
            house = samples.Maker(start).house()
            rows = shown_house(house)
            self.assertEqual(repr(read_house(rows)), repr(house))
            self.assertEqual(repr(shown_house(read_house(rows))), repr(rows))

    def test_a_great_house(self):
        sets = tuple((one + other, chain(20)) for one in "abcdefghij" for other in "abcdefghij")
        house = tuple((name, (), (), (plain(sets=sets),) * 30) for name in "abcdef")
        rows = shown_house(house)
        self.assertEqual(len(rows), 6 * (1 + 30 * 102))
        self.assertEqual(read_house(rows), house)

    def test_at_the_bounds(self):
        deep = plain()
        for place in range(5):
            deep = plain(lines=(deep,))
        lines = (deep,) + (plain(chain(20)),) * 24
        boxes, works = tuple((name, 0) for name in "abcd"), tuple((name, ONE) for name in "abcd")
        self.shows((part(*lines, boxes=boxes, works=works),),
                   ["part p"] + [f"box {name} 0" for name in "abcd"] + [f"work {name} 1" for name in "abcd"]
                   + ["plain t -"] * 6 + ["end"] * 6
                   + ["plain t add 1 add 1 add 1 add 1 add 1 add 1 add 1 add 1 pick 1 1 1", "end"] * 24)


class TestOwn(Texts):
    def test_rows_stay(self):
        rows = list(samples.ROWS)
        read_house(rows)
        self.assertEqual(rows, samples.ROWS)
        rows = ["part p", "plain t -", "else"]
        self.refused(rows, 2, 0)
        self.assertEqual(rows, ["part p", "plain t -", "else"])

    def test_rows_may_be_changed_behind(self):
        rows = list(samples.ROWS)
        house = read_house(rows)
        rows.clear()
        self.assertEqual(repr(house), repr(samples.HOUSE))

    def test_told_rows_may_be_changed(self):
        rows = shown_house(samples.HOUSE)
        rows[0] = "x"
        rows.append("y")
        self.assertEqual(shown_house(samples.HOUSE), samples.ROWS)

    def test_read_again_after_a_refusal(self):
        self.refused(samples.ROWS[:10], 10, 0)
        self.assertEqual(repr(read_house(samples.ROWS)), repr(samples.HOUSE))


class TestRefusedWords(Texts):
    def test_no_rows(self):
        self.refused([], 0, 0)

    def test_each_word_in_the_place_of_which_another_stands(self):
        for line, row in enumerate(samples.ROWS):
            words = row.split(" ")
            for place in range(len(words)):
                for wrong in ("", "!", "A", "abcdefghi", "1a", "a1", "+1", "01", "-0", "--1", "1.", "1000000001"):
                    changed = words[:place] + [wrong] + words[place + 1:]
                    self.refused(samples.ROWS[:line] + [" ".join(changed)] + samples.ROWS[line + 1:], line, place)

    def test_a_word_let_go_at_the_end_of_a_row(self):
        for line, row in enumerate(samples.ROWS):
            words = row.split(" ")
            for count in range(1, len(words)):
                self.refused(samples.ROWS[:line] + [" ".join(words[:count])] + samples.ROWS[line + 1:], line, count)
            self.refused(samples.ROWS[:line] + [""] + samples.ROWS[line + 1:], line, 0)

    def test_one_word_too_many(self):
        for line, row in enumerate(samples.ROWS):
            count = len(row.split(" "))
            for more in ("1", "a", "-", "end", "box a", "!", "1 2 3"):
                self.refused(samples.ROWS[:line] + [row + " " + more] + samples.ROWS[line + 1:], line, count)

    def test_blanks(self):
        for line, row in enumerate(samples.ROWS):
            words = row.split(" ")
            behind = samples.ROWS[line + 1:]
            self.refused(samples.ROWS[:line] + [" " + row] + behind, line, 0)
            self.refused(samples.ROWS[:line] + [row + " "] + behind, line, len(words))
            self.refused(samples.ROWS[:line] + [" "] + behind, line, 0)
            for place in range(1, len(words)):
                two = " ".join(words[:place]) + "  " + " ".join(words[place:])
                self.refused(samples.ROWS[:line] + [two] + behind, line, place)

    def test_a_word_let_go_within_a_row(self):
        self.refused(["part p", "box 1"], 1, 1)
        self.refused(["part p", "work 1"], 1, 1)
        self.refused(["part p", "work w add 1"], 1, 4)
        self.refused(["part p", "work w pick 1 2"], 1, 5)
        self.refused(["part p", "work w take"], 1, 3)
        self.refused(["part p", "work w add take 1 1"], 1, 4)
        self.refused(["part p", "give g 1", "end"], 1, 3)
        self.refused(["part p", "give g -", "end"], 1, 2)
        self.refused(["part p", "plain -", "end"], 1, 1)
        self.refused(["part p", "draw -"], 1, 1)
        self.refused(["part p", "each 1", "end"], 1, 1)
        self.refused(["part p", "when", "else", "end"], 1, 1)
        self.refused(["part p", "plain t -", "hand tap last", "end"], 2, 2)
        self.refused(["part p", "box a 1", "plain t -", "hand tap 1 on", "change a 1", "end"], 4, 2)
        self.refused(["part"], 0, 1)

    def test_numbers(self):
        for word in ("+1", "01", "-01", "00", "-0", "+0", "-", "", "1000000001", "-1000000001", "10000000000", "9" * 60,
                     "-" + "9" * 60, "9" * 380, "--1", "1-", "1.0", "1e3", "1_0", "0x1", "a", "one", "take", "'1'"):
            self.refused(["part p", f"box a {word}"], 1, 2)
        for word in ("+1", "01", "-01", "00", "-0", "1000000001", "-1000000001", "10000000000", "9" * 380, "--1", "1-",
                     "1.0", "1_0", "-", "", "a", "num", "on", "end"):
            self.refused(["part p", f"work w {word}"], 1, 2)
            self.refused(["part p", f"work w add 1 {word}"], 1, 4)
            self.refused(["part p", f"work w pick {word} 2 3"], 1, 3)
            self.refused(["part p", f"when {word}", "else", "end"], 1, 1)
        for word in ("+1", "01", "-0", "1000000001", "--", "a", "none", "", "None", "!", "-a"):
            self.refused(["part p", f"plain t {word}", "end"], 1, 2)
            self.refused(["part p", f"draw q {word}", "part q"], 1, 2)
            self.refused(["part p", f"give g 1 {word}", "end"], 1, 3)
        self.refused(["part p", "box a -"], 1, 2)

    def test_numbers_at_the_bounds(self):
        for word in ("0", "-1", "1", "10", "-10", "999999999", "-999999999", "1000000000", "-1000000000"):
            house = read_house(["part p", f"box a {word}", f"work w {word}"])
            self.assertEqual(repr(house), repr((("p", (("a", int(word)),), (("w", ("num", int(word))),), ()),)))

    def test_names(self):
        for word in ("", "abcdefghi", "A", "aB", "a1", "1", "-", "a_b", "a-b", "a.b", "a~", "'a'"):
            self.refused([f"part {word}"], 0, 1)
            self.refused(["part p", f"box {word} 1"], 1, 1)
            self.refused(["part p", f"work {word} 1"], 1, 1)
            self.refused(["part p", f"plain {word} -", "end"], 1, 1)
            self.refused(["part p", "plain t -", f"set {word} 1", "end"], 2, 1)
            self.refused(["part p", "plain t -", f"hand {word} 1 on", "end"], 2, 1)
            self.refused(["part p", "plain t -", "hand e 1 on", f"change {word} set 1", "end"], 3, 1)
            self.refused(["part p", f"draw {word} -"], 1, 1)
            self.refused(["part p", "draw q -", f"with {word} 1", "part q"], 2, 1)
            self.refused(["part p", f"give {word} 1 -", "end"], 1, 1)
            self.refused(["part p", f"each {word} 1", "end"], 1, 1)
            for sort in ("take", "box", "down", "turn"):
                self.refused(["part p", f"work w {sort} {word}"], 1, 3)
                self.refused(["part p", f"plain t {sort} {word}", "end"], 1, 3)

    def test_ranks_lasts_and_words(self):
        for word in ("0", "4", "-1", "01", "+1", "10", "", "one", "on"):
            self.refused(["part p", "plain t -", f"hand e {word} on", "end"], 2, 2)
        for word in ("off", "Last", "", "1", "0", "true", "lasts", "-"):
            self.refused(["part p", "plain t -", f"hand e 1 {word}", "end"], 2, 3)
        for word in ("less", "pick", "num", "", "Set", "sets", "1", "take", "-"):
            self.refused(["part p", "box a 1", "plain t -", "hand e 1 on", f"change a {word} 1", "end"], 4, 2)

    def test_other_words_in_reckonings(self):
        for word in ("num", "Take", "takes", "a", "and", "set", "sub", "-", "plain", "", "!", "p"):
            self.refused(["part p", f"work w {word} a"], 1, 2)
            self.refused(["part p", f"work w add {word} 1"], 1, 3)
            self.refused(["part p", f"work w less add 1 2 {word}"], 1, 6)
        self.refused(["part p", "work w num 1"], 1, 2)
        self.refused(["part p", "work w add 1 2 3"], 1, 5)
        self.refused(["part p", "work w -"], 1, 2)


class TestRefusedRows(Texts):
    def test_other_first_words(self):
        for line in range(len(samples.ROWS)):
            for row in ("", "x", "Part a", "house a", "num 1", "take a", "ends", "End", "part_a", "1", "-", "! a b"):
                self.refused(samples.ROWS[:line] + [row] + samples.ROWS[line + 1:], line, 0)
                self.refused(samples.ROWS[:line] + [row] + samples.ROWS[line:], line, 0)
        self.refused(samples.ROWS + ["x"], len(samples.ROWS), 0)
        self.refused(samples.ROWS + [""], len(samples.ROWS), 0)

    # What may stand at the rows' end, by the rows ahead: all other first words are refused, as word 0.
    STANDS = (
        ((), "part"),
        (("part p",), "part box work plain draw give when each"),
        (("part p", "box a 1"), "part box work plain draw give when each"),
        (("part p", "work w 1"), "part work plain draw give when each"),
        (("part p", "box a 1", "work w 1"), "part work plain draw give when each"),
        (("part p", "plain t -"), "set hand end plain draw give when each"),
        (("part p", "plain t -", "set x 1"), "set hand end plain draw give when each"),
        (("part p", "box a 1", "plain t -", "hand e 1 on"), "hand change end plain draw give when each"),
        (("part p", "box a 1", "plain t -", "hand e 1 on", "change a set 1"),
         "hand change end plain draw give when each"),
        (("part p", "plain t -", "draw q -"), "with end plain draw give when each"),
        (("part p", "plain t -", "draw q -", "with x 1"), "with end plain draw give when each"),
        (("part p", "plain t -", "plain t -", "end"), "end plain draw give when each"),
        (("part p", "plain t -", "end"), "part plain draw give when each"),
        (("part p", "draw q -"), "with part plain draw give when each"),
        (("part p", "draw q -", "with x 1"), "with part plain draw give when each"),
        (("part p", "give g 1 -"), "end plain draw give when each"),
        (("part p", "give g 1 -", "draw q -"), "with end plain draw give when each"),
        (("part p", "give g 1 -", "end"), "part plain draw give when each"),
        (("part p", "each i 1"), "end plain draw give when each"),
        (("part p", "each i 1", "end"), "part plain draw give when each"),
        (("part p", "when 1"), "else plain draw give when each"),
        (("part p", "when 1", "plain t -"), "set hand end plain draw give when each"),
        (("part p", "when 1", "plain t -", "end"), "else plain draw give when each"),
        (("part p", "when 1", "else"), "end plain draw give when each"),
        (("part p", "when 1", "else", "plain t -", "end"), "end plain draw give when each"),
        (("part p", "when 1", "else", "end"), "part plain draw give when each"),
        (("part p", "when 1", "when 1", "else", "end"), "else plain draw give when each"),
        (("part p", "when 1", "else", "when 1"), "else plain draw give when each"),
        (("part p", "plain t -", "end", "part q"), "part box work plain draw give when each"),
        (("part p", "plain t -", "hand e 1 on", "plain t -"), "set hand end plain draw give when each"),
        (("part p", "plain t -", "hand e 1 on", "plain t -", "end"), "end plain draw give when each"),
    )

    def test_what_may_stand_where(self):
        for ahead, words in self.STANDS:
            for word in FIRST_WORDS:
                rows = list(ahead) + [WHOLE[word]]
                if word in words.split(" "):
                    # As told so far: so it is the next row that is refused, if not the whole.
                    self.refused(rows + ["!"], len(rows), 0)
                else:
                    self.refused(rows, len(ahead), 0)
                    self.refused(rows + ["!"], len(ahead), 0)

    # By the row that is let go, or told twice, the row that is refused, as word 0; with any other one it is a house.
    LET_GO = {0: 0, 1: 46, 2: 46, 7: 7, 10: 10, 16: 25, 17: 17, 20: 25, 21: 21, 23: 35, 24: 35, 25: 35, 26: 35, 27: 34,
              28: 29, 30: 33, 31: 34, 32: 35, 34: 35, 35: 35, 36: 36, 37: 46, 40: 40, 43: 43, 45: 45, 46: 46}
    TWICE = {0: 48, 1: 48, 2: 48, 3: 48, 4: 48, 5: 48, 6: 48, 7: 37, 8: 48, 9: 48, 10: 48, 13: 48, 14: 48, 16: 37,
             18: 48, 19: 48, 20: 37, 21: 37, 22: 48, 23: 27, 24: 27, 25: 27, 26: 27, 27: 37, 28: 36, 30: 31, 31: 37,
             32: 36, 34: 36, 35: 36, 36: 48, 37: 48, 38: 48, 39: 48, 40: 47, 41: 48, 42: 48, 43: 48, 45: 46, 46: 48}

    def test_each_row_let_go_and_told_twice(self):
        rows = samples.ROWS
        for line in range(len(rows)):
            let_go, twice = rows[:line] + rows[line + 1:], rows[:line + 1] + rows[line:]
            for told, wrong in ((let_go, self.LET_GO), (twice, self.TWICE)):
                if line in wrong:
                    self.refused(told, wrong[line], 0)
                else:
                    self.assertEqual(shown_house(read_house(told)), told)

    def test_a_row_let_go(self):
        self.refused(samples.ROWS[1:], 0, 0)
        self.refused(["part p", "plain t -", "plain t -", "end"], 4, 0)
        self.refused(["part p", "box a 1", "plain t -", "change a set 1", "end"], 3, 0)
        self.refused(["part p", "when 1", "end"], 2, 0)
        self.refused(["part p", "when 1", "else"], 3, 0)
        self.refused(["part p", "else", "end"], 1, 0)
        self.refused(["part p", "with x 1"], 1, 0)

    def test_a_row_told_twice(self):
        self.refused(["part p", "when 1", "else", "else", "end"], 3, 0)
        self.refused(["part p", "plain t -", "end", "end"], 3, 0)
        self.refused(["part p", "give g 1 -", "give g 1 -", "end"], 4, 0)
        self.refused(["part p", "box a 1", "box a 1"], 3, 0)
        self.refused(["part p", "part p"], 2, 0)
        self.refused(["part p", "plain t -", "set x 1", "set x 1", "end"], 5, 0)
        self.refused(["part p", "plain t -", "hand e 1 on", "hand e 1 on", "end"], 5, 0)
        self.refused(["part p", "draw q -", "with x 1", "with x 1", "part q"], 5, 0)
        self.refused(["part p", "work w 1", "work w 1"], 3, 0)

    def test_a_row_put_elsewhere(self):
        self.refused(["part p", "work w 1", "box a 1"], 2, 0)
        self.refused(["part p", "plain t -", "end", "box a 1"], 3, 0)
        self.refused(["part p", "plain t -", "end", "work w 1"], 3, 0)
        self.refused(["part p", "plain t -", "hand e 1 on", "set x 1", "end"], 3, 0)
        self.refused(["part p", "plain t -", "draw q -", "set x 1", "end", "part q"], 3, 0)
        self.refused(["part p", "plain t -", "draw q -", "hand e 1 on", "end", "part q"], 3, 0)
        self.refused(["part p", "plain t -", "end", "set x 1"], 3, 0)
        self.refused(["part p", "plain t -", "end", "hand e 1 on"], 3, 0)
        self.refused(["part p", "box a 1", "plain t -", "hand e 1 on", "draw q -", "change a set 1", "end"], 5, 0)
        self.refused(["part p", "box a 1", "plain t -", "change a set 1", "hand e 1 on", "end"], 3, 0)
        self.refused(["part p", "draw q -", "plain t -", "end", "with x 1", "part q"], 4, 0)
        self.refused(["part p", "give g 1 -", "set x 1", "end"], 2, 0)
        self.refused(["part p", "give g 1 -", "with x 1", "end"], 2, 0)
        self.refused(["part p", "else", "when 1", "end"], 1, 0)
        self.refused(["part p", "plain t -", "part q", "end"], 2, 0)
        self.refused(["end", "part p"], 0, 0)
        self.refused(["box a 1", "part p"], 0, 0)

    def test_the_rows_cut_off(self):
        deep = 0
        for count, row in enumerate(samples.ROWS):
            if deep:
                self.refused(samples.ROWS[:count], count, 0)
            if row.split(" ")[0] in ("plain", "give", "when", "each"):
                deep += 1
            if row == "end":
                deep -= 1

    def test_ends(self):
        for line, row in enumerate(samples.ROWS):
            if row == "end":
                rows = samples.ROWS[:line] + samples.ROWS[line + 1:]
                with self.assertRaises(errors.NoText) as caught:
                    read_house(rows)
                # Where one lacks, it is told by the next else or part, or by the rows' end.
                self.assertEqual(caught.exception.word, 0)
                self.assertGreaterEqual(caught.exception.line, line)
        for line in (len(samples.ROWS), 36, 1):
            self.refused(samples.ROWS[:line] + ["end"] + samples.ROWS[line:], line, 0)
        self.refused(["part p", "plain t -", "plain t -", "end", "part q", "end"], 4, 0)
        self.refused(["part p", "each i 1", "plain t -", "end"], 4, 0)
        self.refused(["part p", "each i 1", "end", "end", "part q"], 3, 0)

    def test_the_first_fault_is_told(self):
        self.refused(["part p", "box A x", "box"], 1, 1)
        self.refused(["part p", "box a x y", "!"], 1, 2)
        self.refused(["!", "part p", "box"], 0, 0)
        self.refused(["part p", "end x y"], 1, 0)
        self.refused(["part p", "set A x"], 1, 0)
        self.refused(["part p", "box a 1 2", "box a 1"], 1, 3)
        # What is no house is told behind all rows.
        self.refused(["part p", "box a 1", "box a 1", "box"], 3, 1)
        self.refused(["part p", "draw p -", "plain t turn i", "end x"], 3, 1)

    def test_very_deep_rows(self):
        for row in ("plain t -", "give g 1 -", "when 1", "each i 1"):
            self.refused(["part p"] + [row] * 990, 991, 0)
            self.refused(["part p"] + [row] * 990 + ["!"], 991, 0)
        self.refused(["part p"] + ["plain t -"] * 499 + ["end"] * 499, 999, 0)
        self.refused(["part p"] + ["when 1"] * 330 + ["else", "end"] * 330, 991, 0)
        self.refused(["part p"] + ["plain t -"] * 499 + ["end"] * 500, 999, 0)

    def test_very_long_rows(self):
        self.refused(["part p", "work w" + " add" * 65 + " 1" * 66], 2, 0)
        self.refused(["part p", "work w" + " add" * 98], 1, 100)
        self.refused(["part p", "work w" + " add" * 65 + " 1" * 65], 1, 2 + 65 + 65)
        self.refused(["part p", "work w" + " add" * 65 + " 1" * 67], 1, 2 + 65 + 66)
        self.refused(["part p", "work w" + " add 1" * 60 + " x"], 1, 2 + 120)


class TestNoHouse(Texts):
    def no_house(self, *rows):
        """That rows which are all as told, by themselves, are refused behind the last one."""
        self.refused(list(rows), len(rows), 0)

    def test_names_told_twice(self):
        self.no_house("part p", "part q", "part p")
        self.no_house("part p", "box a 1", "box b 1", "box a 2")
        self.no_house("part p", "work a 1", "work a 2")
        self.no_house("part p", "plain t -", "set x 1", "set y 1", "set x 1", "end")
        self.no_house("part p", "plain t -", "hand e 1 on", "hand e 2 last", "end")
        self.no_house("part p", "draw q -", "with x 1", "with x 2", "part q")

    def test_boxes_that_are_none_of_the_parts(self):
        self.no_house("part p", "box a 1", "work w box b")
        self.no_house("part p", "plain t box a", "end")
        self.no_house("part p", "plain t -", "set x box a", "end")
        self.no_house("part p", "plain t -", "hand e 1 on", "change a set 1", "end")
        self.no_house("part p", "box a 1", "part q", "plain t box a", "end")

    def test_turns(self):
        self.no_house("part p", "plain t turn i", "end")
        self.no_house("part p", "each i turn i", "end")
        self.no_house("part p", "work w turn i", "each i 1", "end")
        self.no_house("part p", "each i 1", "end", "plain t turn i", "end")

    def test_parts_that_do_not_stand_behind(self):
        self.no_house("part p", "draw p -")
        self.no_house("part p", "draw q -")
        self.no_house("part p", "part q", "draw p -")
        self.no_house("part p", "when 1", "else", "draw r -", "end", "part q")

    def test_beyond_the_bounds(self):
        self.no_house(*["part p"] + [f"box {name} 0" for name in "abcde"])
        self.no_house(*["part p"] + [f"work {name} 0" for name in "abcde"])
        self.no_house(*[f"part {name}" for name in "abcdefg"])
        self.no_house(*["part p"] + ["plain t -", "end"] * 31)
        self.no_house(*["part p"] + ["draw q -"] * 31 + ["part q"])
        self.no_house(*["part p"] + ["plain t -"] * 7 + ["end"] * 7)
        self.no_house(*["part p"] + ["each i 1"] * 3 + ["end"] * 3)
        self.no_house("part p", "work w" + " add" * 10 + " 1" * 11)

    def test_what_is_read_is_a_house(self):
        for start in range(40):
            self.assertIs(is_house(read_house(shown_house(samples.Maker(start).house()))), True)

    def test_what_is_handed_in_stays(self):
        house = copy.deepcopy(samples.HOUSE)
        shown_house(house)
        self.assertEqual(repr(house), repr(samples.HOUSE))


if __name__ == "__main__":
    unittest.main()
