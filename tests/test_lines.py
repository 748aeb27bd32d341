import copy
import unittest

import samples
from samples import BOUND, ONE, chain, swapped
from viewwood.houses import is_part
from viewwood.lines import lines_fit

PLAIN = ("plain", None, "tag", (), (), ())
GIVE = ("give", None, "g", ONE, ())
WHEN = ("when", ONE, (), ())
EACH = ("each", "i", ONE, ())
DRAW = ("part", None, "p", ())
HAND = ("tap", 1, True, ())
CHANGE = ("a", "set", ONE)
TURN = ("turn", "i")
WRONG = (None, True, False, 0, 1, -1, 10 ** 60 - 1, "", "a", "plain", (), ((),), ("a",), [], [PLAIN], {}, {"a": 1})


def plain(key=None, tag="tag", sets=(), hands=(), lines=()):
    return ("plain", key, tag, sets, hands, lines)


def draw(key=None, name="p", gives=()):
    return ("part", key, name, gives)


def give(key=None, name="g", number=ONE, lines=()):
    return ("give", key, name, number, lines)


def when(number=ONE, first=(), second=()):
    return ("when", number, first, second)


def each(name="i", number=ONE, lines=()):
    return ("each", name, number, lines)


def hand(event="tap", rank=1, last=True, changes=()):
    return plain(hands=((event, rank, last, changes),))


def change(box="a", word="set", number=ONE):
    return hand(changes=((box, word, number),))


# Ways of laying lines within a line, by the place where they come to stand.
AROUND = (
    ("plain", lambda lines: plain(lines=lines)),
    ("give", lambda lines: give(lines=lines)),
    ("when", lambda lines: when(first=lines)),
    ("else", lambda lines: when(second=lines)),
    ("each", lambda lines: each(lines=lines)),
)

# All places of a line where a reckoning stands, with the line as it is with this one there.
PLACES = (
    ("plain key", lambda r: plain(key=r)),
    ("set", lambda r: plain(sets=(("x", r),))),
    ("second set", lambda r: plain(sets=(("x", ONE), ("y", r)))),
    ("change", lambda r: change(number=r)),
    ("second change", lambda r: hand(changes=(CHANGE, ("a", "add", r)))),
    ("second hand", lambda r: plain(hands=(HAND, ("key", 2, False, (("a", "times", r),))))),
    ("part key", lambda r: draw(key=r)),
    ("gives", lambda r: draw(gives=(("x", r),))),
    ("second gives", lambda r: draw(gives=(("y", ONE), ("x", r)))),
    ("give key", lambda r: give(key=r)),
    ("give", lambda r: give(number=r)),
    ("when", lambda r: when(number=r)),
    ("each", lambda r: each(name="k", number=r)),
)


class Fitting(unittest.TestCase):
    """Asks for each thing both ways: of the lines alone, and of the part that has them."""

    def told(self, lines, boxes):
        told = lines_fit(lines, boxes)
        part = ("name", tuple((box, 0) for box in boxes), (), lines)
        self.assertIs(is_part(part), told, lines)
        return told

    def fit(self, *all_lines, boxes=("a",)):
        for lines in all_lines:
            self.assertIs(self.told(lines, boxes), True, lines)

    def none(self, *all_lines, boxes=("a",)):
        for lines in all_lines:
            self.assertIs(self.told(lines, boxes), False, lines)


class TestForms(Fitting):
    def test_no_lines(self):
        self.fit((), boxes=())
        self.fit((), boxes=("a", "b"))

    def test_each_sort(self):
        self.fit(*[(line,) for line in (PLAIN, GIVE, WHEN, EACH, DRAW)])
        self.fit((PLAIN, GIVE, WHEN, EACH, DRAW), boxes=())
        self.fit((DRAW, DRAW, PLAIN, PLAIN))

    def test_the_sample_parts(self):
        for part in samples.HOUSE:
            self.assertIs(lines_fit(part[3], tuple(box[0] for box in part[1])), True, part)

    def test_made_parts(self):
        for start in range(60):
            maker = samples.Maker(start)
            boxes = tuple(maker.names(4))
            maker.room = 30
            lines = maker.lines(boxes, ("p", "q"))
            self.assertIs(lines_fit(lines, boxes), True, lines)

    def test_the_parts_they_name_may_be_any(self):
        self.fit((draw(name="name"), draw(name="nobody")))

    def test_no_lines_at_all(self):
        self.none(*[thing for thing in WRONG if thing != ()])
        self.none(PLAIN, [], [PLAIN], "plain", {0: PLAIN}, ((PLAIN,),))

    def test_no_line(self):
        for thing in WRONG:
            self.none((thing,), (PLAIN, thing), (thing, PLAIN))
            for name, around in AROUND:
                self.none((around((thing,)),), (around((PLAIN, thing)),))

    def test_no_lines_within(self):
        for thing in WRONG:
            if thing != ():
                self.none(*[(around(thing),) for name, around in AROUND])

    def test_other_words(self):
        for line in (PLAIN, GIVE, WHEN, EACH, DRAW):
            for word in ("", "Plain", "plain ", "draw", "parts", "num", 1, None, True, ("plain",), ["plain"], {}):
                self.none((swapped(line, 0, word),))
            for other in ("plain", "give", "when", "each", "part"):
                if other != line[0]:
                    self.none((swapped(line, 0, other),))

    def test_one_thing_more_or_fewer(self):
        for line in (PLAIN, GIVE, WHEN, EACH, DRAW, change()):
            for more in (None, (), ONE, "a", True):
                self.none((line + (more,),), (line[:1] + (more,) + line[1:],))
            for place in range(len(line)):
                self.none((line[:place] + line[place + 1:],))
        for thing in (("x",), (ONE,), ("x", ONE, ONE), ("x", ONE, None), (), ("x", "x", ONE)):
            self.none((plain(sets=(thing,)),), (draw(gives=(thing,)),))
            self.none((plain(sets=(("y", ONE), thing)),), (draw(gives=(("y", ONE), thing)),))

    def test_one_thing_more_or_fewer_in_hands(self):
        for place in range(4):
            self.none((plain(hands=(HAND[:place] + HAND[place + 1:],)),))
        for place in range(3):
            self.none((hand(changes=(CHANGE[:place] + CHANGE[place + 1:],)),))
        for more in (None, (), ONE, "a", True):
            self.none((plain(hands=(HAND + (more,),)),), (hand(changes=(CHANGE + (more,),)),))
        self.none((plain(hands=((),)),), (hand(changes=((),)),))

    def test_one_thing_more_or_fewer_at_any_place(self):
        for part in samples.HOUSE:
            boxes = tuple(box[0] for box in part[1])
            for change in (samples.as_resized, samples.as_holed):
                for lines in samples.variants(part[3], change):
                    self.assertIs(lines_fit(lines, boxes), False, lines)

    def test_a_list_in_the_place_of_a_tuple(self):
        for part in samples.HOUSE:
            boxes = tuple(box[0] for box in part[1])
            changed = samples.variants(part[3], samples.as_list)
            for lines in changed:
                self.assertIs(lines_fit(lines, boxes), False, lines)
        for line in (PLAIN, GIVE, WHEN, EACH, DRAW, change()):
            self.none(*samples.variants((line,), samples.as_list))

    def test_a_truth_in_the_place_of_a_number(self):
        for part in samples.HOUSE:
            boxes = tuple(box[0] for box in part[1])
            for lines in samples.variants(part[3], samples.as_truth):
                self.assertIs(lines_fit(lines, boxes), False, lines)

    def test_no_truth_where_one_is_to_stand(self):
        for part in samples.HOUSE:
            boxes = tuple(box[0] for box in part[1])
            for lines in samples.variants(part[3], samples.as_no_truth):
                self.assertIs(lines_fit(lines, boxes), False, lines)
        for thing in ("last", "on", "True", "", None, 0, 1, (), (True,), [True], ONE):
            self.none((hand(last=thing),))

    def test_no_text_where_one_is_to_stand(self):
        for part in samples.HOUSE:
            boxes = tuple(box[0] for box in part[1])
            for lines in samples.variants(part[3], samples.as_no_text):
                self.assertIs(lines_fit(lines, boxes), False, lines)


class TestNames(Fitting):
    def test_no_names(self):
        for thing in ("", "abcdefghi", "A", "a1", "a b", "-", " ", "a_b", 1, 0, True, None, (), ("a",), ["a"], {}, ONE):
            self.none((plain(tag=thing),), (draw(name=thing),), (give(name=thing),), (each(name=thing),))
            self.none((plain(sets=((thing, ONE),)),), (draw(gives=((thing, ONE),)),))
            self.none((hand(event=thing),), (change(box=thing),))

    def test_eight_letters(self):
        name = "abcdefgh"
        self.fit((plain(tag=name, sets=((name, ONE),)),), (draw(name=name, gives=((name, ONE),)),))
        self.fit((give(name=name),), (each(name=name, lines=(plain(key=("turn", name)),)),), (hand(event=name),))
        self.fit((change(box=name),), boxes=(name,))

    def test_names_of_unlike_sorts_may_be_alike(self):
        inner = ("plain", ("turn", "a"), "a", (("a", ("box", "a")),), (("a", 1, True, (("a", "add", ("take", "a")),)),),
                 (draw(name="a", gives=(("a", ("down", "a")),)),))
        self.fit((give(name="a", lines=(each(name="a", lines=(inner,)),)),))

    def test_sets_told_twice(self):
        self.fit((plain(sets=(("x", ONE), ("y", ONE), ("z", ONE))),))
        self.none((plain(sets=(("x", ONE), ("x", ("num", 2)))),), (plain(sets=(("x", ONE), ("y", ONE), ("x", ONE))),))
        self.fit((plain(sets=(("x", ONE),)), plain(sets=(("x", ONE),))))

    def test_gives_told_twice(self):
        self.fit((draw(gives=(("x", ONE), ("y", ONE), ("z", ONE))),))
        self.none((draw(gives=(("x", ONE), ("x", ("num", 2)))),), (draw(gives=(("x", ONE), ("y", ONE), ("x", ONE))),))
        self.fit((draw(gives=(("x", ONE),)), draw(gives=(("x", ONE),)), give(name="x"), give(name="x")))

    def test_events_told_twice(self):
        other = ("key", 1, True, ())
        self.fit((plain(hands=(HAND, other, ("drag", 1, True, ()))),))
        self.none((plain(hands=(HAND, HAND)),), (plain(hands=(HAND, other, ("tap", 2, False, (CHANGE,)))),))
        self.fit((plain(hands=(HAND,)), plain(hands=(HAND,), lines=(plain(hands=(HAND,)),))))

    def test_a_box_may_be_changed_twice(self):
        self.fit((hand(changes=(CHANGE, CHANGE, ("a", "add", ONE))),))


class TestHands(Fitting):
    def test_ranks(self):
        self.fit(*[(hand(rank=rank),) for rank in (1, 2, 3)])
        for rank in (0, 4, -1, -3, 10 ** 60 - 1, True, False, None, "1", "", (), (1,), [1], ONE):
            self.none((hand(rank=rank),), (plain(hands=(HAND, ("key", rank, False, ()))),))

    def test_last(self):
        self.fit((hand(last=True),), (hand(last=False),))

    def test_words_of_changes(self):
        self.fit(*[(change(word=word),) for word in ("set", "add", "times")])
        for word in ("less", "pick", "num", "", "Set", "set ", "sets", 1, True, None, ("set",), ["set"], {}):
            self.none((change(word=word),), (hand(changes=(CHANGE, ("a", word, ONE))),))

    def test_no_hands_and_no_changes(self):
        for thing in WRONG:
            if thing != ():
                self.none((plain(hands=thing),), (hand(changes=thing),), (plain(sets=thing),), (draw(gives=thing),))
            self.none((plain(hands=(thing,)),), (plain(hands=(HAND, thing)),), (hand(changes=(CHANGE, thing)),))


class TestReckonings(Fitting):
    def test_each_place_takes_any_reckoning(self):
        for name, line in PLACES:
            self.fit((line(("pick", ("box", "a"), ("take", "x"), ("less", ("down", "y"), ("num", -BOUND)))),))

    def test_a_key_may_be_none_and_nothing_else_may(self):
        for name, line in PLACES:
            told = self.told((line(None),), ("a",))
            self.assertIs(told, "key" in name, name)

    def test_no_reckoning(self):
        for name, line in PLACES:
            for thing in (0, 1, True, "a", "-", "", (), ("num",), ("num", True), ("num", BOUND + 1), ["num", 1], {},
                          ("take", "A"), ("add", ONE), ("add", ONE, None), ((),), (None,)):
                self.none((line(thing),))

    def test_twenty_and_twenty_one(self):
        for name, line in PLACES:
            self.fit((line(chain(19)),), (line(chain(20)),))
            self.none((line(chain(21)),), (line(chain(22)),), (line(chain(99)),))

    def test_other_boxes(self):
        for name, line in PLACES:
            for deep in (1, 3, 4):
                self.fit((line(chain(deep, ("box", "b"))),), boxes=("a", "b"))
                self.none((line(chain(deep, ("box", "b"))),), (line(chain(deep, ("box", "b"))),), boxes=("a", "c"))
        self.none((PLAIN, give(lines=(plain(key=("box", "b")),))))
        self.none((plain(key=("box", "a")),), boxes=())

    def test_changes_of_other_boxes(self):
        self.fit((change(box="a"), change(box="b")), boxes=("a", "b"))
        self.none((change(box="b"),), (hand(changes=(CHANGE, ("b", "add", ONE))),))
        self.none((hand(changes=(("b", "add", ONE), CHANGE)),), (change(),), boxes=())

    def test_takes_and_downs_may_be_any(self):
        for name, line in PLACES:
            self.fit((line(("add", ("take", "zz"), ("down", "zz"))),))


class TestTurns(Fitting):
    def test_outside_an_each(self):
        for name, line in PLACES:
            self.none((line(TURN),), (line(chain(5, TURN)),), (each(), line(TURN)), (line(TURN), each()))

    def test_within_an_each(self):
        for name, line in PLACES:
            self.fit((each(lines=(line(TURN),)),), (each(lines=(line(chain(20, TURN)),)),))
            self.none((each(name="j", lines=(line(TURN),)),), (each(name="a", lines=(line(TURN),)),))

    def test_deep_within_an_each(self):
        for name, line in PLACES:
            for sort, around in AROUND:
                self.fit((each(lines=(around((line(TURN),)),)),) if sort != "each" or name != "each" else ())

    def test_of_either_each(self):
        for key in (TURN, ("turn", "j"), ("add", TURN, ("turn", "j"))):
            self.fit((each(lines=(each(name="j", lines=(plain(key=key),)),)),))
        self.none((each(lines=(each(name="j", lines=(plain(key=("turn", "k")),)),)),))
        self.none((each(lines=(each(name="j"), plain(key=("turn", "j")))),))

    def test_in_the_own_reckoning_of_an_each(self):
        self.none((each(number=TURN),), (each(number=TURN, lines=(PLAIN,)),), (each(number=chain(4, TURN)),))
        self.none((each(name="j", lines=(each(number=TURN),)),))
        self.fit((each(lines=(each(name="j", number=TURN),)),))
        self.fit((each(lines=(each(name="i", number=TURN, lines=(plain(key=TURN),)),)),))

    def test_a_turn_is_no_box(self):
        self.none((each(lines=(plain(key=("box", "i")),)),), (each(lines=(change(box="i"),)),))
        self.none((plain(key=("turn", "a")),))


class TestBounds(Fitting):
    def test_thirty_in_a_row(self):
        for line in (PLAIN, GIVE, WHEN, EACH, DRAW):
            self.fit((line,) * 30)
            self.none((line,) * 31, (line,) * 32, (line,) * 500)

    def test_thirty_counted_within(self):
        for name, around in AROUND:
            self.fit((around((PLAIN,) * 29),), (PLAIN,) * 14 + (around((DRAW,) * 15),))
            self.none((around((PLAIN,) * 30),), (PLAIN,) * 15 + (around((DRAW,) * 15),))
            self.fit((around((around((DRAW,) * 14), around((PLAIN,) * 13))),))
            self.none((around((around((DRAW,) * 14), around((PLAIN,) * 14))),))
            self.fit((around((DRAW,) * 20),) + (PLAIN,) * 9)
            self.none((around((DRAW,) * 20),) + (PLAIN,) * 10)

    def test_both_sides_of_a_when_count(self):
        self.fit((when(ONE, (PLAIN,) * 14, (PLAIN,) * 15),))
        self.none((when(ONE, (PLAIN,) * 15, (PLAIN,) * 15),))
        self.fit((when(ONE, (WHEN,) * 10, (when(ONE, (DRAW,) * 9, (GIVE,) * 9),)),))
        self.none((when(ONE, (WHEN,) * 11, (when(ONE, (DRAW,) * 9, (GIVE,) * 9),)),))

    def nested(self, around, deep, inmost):
        lines = (inmost,)
        for place in range(deep - 1):
            lines = (around(lines),)
        return lines

    def test_six_deep(self):
        for name, around in AROUND:
            if name != "each":
                for inmost in (PLAIN, GIVE, WHEN, EACH, DRAW):
                    self.fit(self.nested(around, 5, inmost), self.nested(around, 6, inmost))
                    self.none(self.nested(around, 7, inmost), self.nested(around, 8, inmost))
                self.none(self.nested(around, 33, PLAIN))

    def test_six_deep_by_all(self):
        lines = (each(lines=(plain(lines=(give(lines=(when(second=(when(first=(DRAW,)),)),)),)),)),)
        self.fit(lines)
        self.none((PLAIN, plain(lines=lines)), (each(name="j", lines=lines),), (give(lines=lines), PLAIN))
        self.none((when(second=lines),), (when(first=lines),))

    def test_six_deep_by_eaches(self):
        # Two eaches, at the outside and at the inside.
        inner = (each(lines=(each(lines=(PLAIN,)),)),)
        self.fit((plain(lines=(plain(lines=(plain(lines=inner),)),)),))
        self.none((plain(lines=(plain(lines=(plain(lines=(plain(lines=inner),)),)),)),))
        four = self.nested(AROUND[0][1], 4, PLAIN)
        self.fit((each(lines=(each(lines=four),)),))
        self.none((each(lines=(each(lines=(plain(lines=four),)),)),))

    def test_no_line_stands_in_the_place_of_lines_that_are_none(self):
        self.fit(self.nested(AROUND[0][1], 6, when(first=(), second=())))

    def test_two_and_three_eaches(self):
        two = each("i", ONE, (each("j", ONE, (PLAIN,)),))
        self.fit((two, two, EACH, two), (plain(lines=(two,)),))
        self.none((each("k", ONE, (two,)),), (each("i", ONE, (two,)),), (each("k", ONE, (PLAIN, two)),))
        self.none((each("i", ONE, (each("j", ONE, (EACH,)),)),))
        self.none((each("i", ONE, (each("i", ONE, (each("i", ONE, ()),)),)),))

    def test_eaches_with_other_lines_between(self):
        for first, around in AROUND[:4]:
            for second, inner in AROUND[:4]:
                self.fit((each("i", ONE, (around((each("j", ONE, (inner((PLAIN,)),)),)),)),))
                self.none((each("i", ONE, (around((each("j", ONE, (inner((each("k", ONE, ()),)),)),)),)),))

    def test_great_things(self):
        deep = ()
        for place in range(90):
            deep = (deep,)
        self.none(deep, (deep,), (plain(key=deep),), (plain(sets=deep),), (plain(hands=deep),), (draw(gives=deep),))
        self.none((PLAIN,) * 20000)

    def test_what_is_handed_in_stays(self):
        for thing in ([PLAIN, [1, {"a": [2]}]], ({"a": PLAIN},), (plain(sets=[["x", ONE]]),)):
            ahead = copy.deepcopy(thing)
            lines_fit(thing, ("a",))
            self.assertEqual(repr(thing), repr(ahead))


if __name__ == "__main__":
    unittest.main()
