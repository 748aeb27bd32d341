import copy
import unittest

import samples
from building import box, draw, each, give, num, plain, want, when
from otherway import drawn_by
from samples import BOUND, ONE, swapped
from viewwood.pieces import drawn, lets_piece

NAMES = ("a", "b", "c", "d", "e")
TWO = ("num", 2)
WRONG = (None, True, False, 0, 1, -1, 10 ** 60 - 1, "", "a", "piece", (), ((),), ((), ()), ((), (), (), ()), [], {},
         [(), (), ()], {0: (), 1: (), 2: ()}, ("", "", ""), (None, None, None), (0, 0, 0), ([], (), ()), ((), [], ()),
         ((), (), []), ({}, (), ()), ((), {}, ()), ((), (), {}), (None, (), ()), ((), None, ()), ((), (), None))


def part(*lines, works=()):
    """A part with boxes a to d."""
    return ("p", tuple((name, place) for place, name in enumerate(NAMES[:4])), works, lines)


def row_of(whole, answers=None):
    return drawn(whole, answers or {})[1]


def keys_of(row):
    return [thing[1][0] for thing in row]


def reads_of(whole, answers=None):
    return drawn(whole, answers or {})[0]


class Same(unittest.TestCase):
    def same(self, told, right):
        self.assertEqual(repr(told), repr(right))


class TestSorts(Same):
    def test_nothing(self):
        self.same(drawn(part(), {}), ((), (), ()))
        self.same(drawn(part(), {("box", "a"): 3}), ((), (), ()))

    def test_plain(self):
        self.same(row_of(part(plain())), (want((None, 0)),))
        self.same(row_of(part(plain(num(-4), "page", (("x", box("a")),), (), (plain(), plain(num(2)))))),
                  (want((-4, 0), "page", (("x", 0),), (), (want((None, 0)), want((2, 0)))),))

    def test_part(self):
        self.same(row_of(part(draw())), (("part", (None, 0), "q", ()),))
        self.same(row_of(part(draw(box("b"), "other", (("x", ("take", "x")), ("y", num(3))))),
                         {("box", "b"): 7, ("take", "x"): -2}),
                  (("part", (7, 0), "other", (("x", -2), ("y", 3))),))

    def test_give(self):
        self.same(row_of(part(give())), (("give", (None, 0), "g", 1, ()),))
        self.same(row_of(part(give(num(5), "theme", box("a"), (draw(), give(), plain()))), {("box", "a"): 9}),
                  (("give", (5, 0), "theme", 9,
                    (("part", (None, 0), "q", ()), ("give", (None, 1), "g", 1, ()), want((None, 2)))),))

    def test_a_give_is_not_handed_down_to_its_own_part(self):
        whole = part(give(None, "g", num(5), (plain(("down", "g"), sets=(("x", ("down", "g")),)),
                                              give(None, "g", ("add", ("down", "g"), ONE)))))
        self.same(drawn(whole, {("down", "g"): 2}),
                  (((("down", "g"), 2),),
                   (("give", (None, 0), "g", 5, (want((2, 0), sets=(("x", 2),)), ("give", (None, 0), "g", 3, ()))),),
                   ()))
        self.same(drawn(whole, {})[0], ((("down", "g"), 0),))

    def test_when(self):
        whole = part(when(box("a"), (plain(tag="yes"), draw(name="yes")), (plain(tag="no"),)))
        yes = (want((None, 0), "yes"), ("part", (None, 1), "yes", ()))
        for number in (1, -1, 2, BOUND, -BOUND):
            self.same(row_of(whole, {("box", "a"): number}), yes)
        self.same(row_of(whole, {("box", "a"): 0}), (want((None, 0), "no"),))
        self.same(row_of(whole), (want((None, 0), "no"),))

    def test_a_when_brings_in_its_place(self):
        line = when(box("a"), (plain(tag="b"),), (plain(tag="c"), plain(tag="d")))
        whole = part(plain(tag="a"), line, plain(tag="e"))
        self.same([thing[2] for thing in row_of(whole)], ["a", "c", "d", "e"])
        self.same([thing[2] for thing in row_of(whole, {("box", "a"): 1})], ["a", "b", "e"])
        self.same([thing[1] for thing in row_of(whole)], [(None, 0), (None, 1), (None, 2), (None, 3)])

    def test_whens_of_one_side(self):
        self.same(row_of(part(when(num(0), (plain(),)), when(ONE, (), (plain(),)))), ())

    def test_each(self):
        whole = part(each("i", box("a"), plain(("turn", "i"), sets=(("x", ("times", ("turn", "i"), num(3))),))))
        for number, turns in ((-BOUND, 0), (-1, 0), (0, 0), (1, 1), (2, 2), (7, 7), (8, 8), (9, 8), (BOUND, 8)):
            row = tuple(want((turn, 0), sets=(("x", 3 * turn),)) for turn in range(turns))
            self.same(row_of(whole, {("box", "a"): number}), row)

    def test_an_each_brings_turn_by_turn_in_its_place(self):
        whole = part(plain(tag="a"), each("i", TWO, plain(tag="b"), plain(("turn", "i"), "c")), plain(tag="d"))
        self.same([thing[1:3] for thing in row_of(whole)],
                  [((None, 0), "a"), ((None, 1), "b"), ((0, 0), "c"), ((None, 2), "b"), ((1, 0), "c"),
                   ((None, 3), "d")])

    def test_eaches_within_eaches(self):
        whole = part(each("i", num(3), each("j", ("turn", "i"), plain(("add", ("times", num(10), ("turn", "i")),
                                                                         ("turn", "j"))))))
        self.same(keys_of(row_of(whole)), [10, 20, 21])
        whole = part(each("i", num(8), each("j", num(9), plain(("turn", "i")))))
        self.same(len(row_of(whole)), 64)

    def test_the_nearest_each_of_a_name_is_meant(self):
        turn = ("turn", "i")
        whole = part(each("i", num(3), plain(turn, "out"), each("i", ("add", turn, ONE), plain(turn, "in")),
                          plain(turn, "out")))
        self.same([(thing[2], thing[1][0]) for thing in row_of(whole)],
                  [("out", 0), ("in", 0), ("out", 0), ("out", 1), ("in", 0), ("in", 1), ("out", 1),
                   ("out", 2), ("in", 0), ("in", 1), ("in", 2), ("out", 2)])

    def test_turns_within_other_lines(self):
        turn = ("turn", "i")
        line = when(turn, (draw(turn, gives=(("x", turn),)),), (plain(num(9)),))
        whole = part(each("i", TWO, plain(lines=(give(number=turn, lines=(line,)),))))
        self.same(row_of(whole),
                  (want((None, 0), row=(("give", (None, 0), "g", 0, (want((9, 0)),)),)),
                   want((None, 1), row=(("give", (None, 0), "g", 1, (("part", (1, 0), "q", (("x", 1),)),)),))))

    def test_turns_in_hands(self):
        whole = part(each("i", TWO, plain(hands=(("tap", 2, False, (("a", "set", ("turn", "i")),)),))))
        self.same(row_of(whole), (want((None, 0), hands=(("tap", 2, False, (("a", "set", 0),)),)),
                                  want((None, 1), hands=(("tap", 2, False, (("a", "set", 1),)),))))

    def test_numbers_are_cut(self):
        big = ("times", num(BOUND), TWO)
        whole = part(plain(big, sets=(("x", big),)), draw(gives=(("x", ("times", num(-2), num(BOUND))),)),
                     give(number=("add", num(BOUND), ONE)), works=(("w", ("add", num(-BOUND), num(-1))),))
        self.same(drawn(whole, {}), ((), (want((BOUND, 0), sets=(("x", BOUND),)),
                                          ("part", (None, 0), "q", (("x", -BOUND),)),
                                          ("give", (None, 1), "g", BOUND, ())), (("w", -BOUND),)))


class TestSpots(Same):
    def spots(self, *lines, answers=None):
        return [thing[1] for thing in row_of(part(*lines), answers)]

    def test_by_key_and_how_many_ahead(self):
        self.same(self.spots(plain(ONE), plain(TWO), plain(ONE), plain(ONE), plain(TWO)),
                  [(1, 0), (2, 0), (1, 1), (1, 2), (2, 1)])
        self.same(self.spots(plain(), plain(), plain()), [(None, 0), (None, 1), (None, 2)])

    def test_none_is_not_nought(self):
        self.same(self.spots(plain(), plain(num(0)), plain(), plain(num(0))), [(None, 0), (0, 0), (None, 1), (0, 1)])

    def test_of_whatever_sort(self):
        self.same(self.spots(plain(ONE), draw(ONE), give(ONE), plain(ONE, "other"), draw(ONE, "r")),
                  [(1, 0), (1, 1), (1, 2), (1, 3), (1, 4)])
        self.same(self.spots(give(), draw(), plain(), draw(), give()),
                  [(None, 0), (None, 1), (None, 2), (None, 3), (None, 4)])

    def test_keys_of_one_number_by_unlike_reckonings(self):
        self.same(self.spots(plain(box("a")), plain(("add", ONE, ONE)), plain(TWO), answers={("box", "a"): 2}),
                  [(2, 0), (2, 1), (2, 2)])

    def test_each_row_counts_for_itself(self):
        self.same(row_of(part(plain(ONE, lines=(plain(ONE), plain(ONE))), plain(ONE, lines=(plain(ONE),)),
                              give(ONE, lines=(plain(ONE), draw(ONE))))),
                  (want((1, 0), row=(want((1, 0)), want((1, 1)))), want((1, 1), row=(want((1, 0)),)),
                   ("give", (1, 2), "g", 1, (want((1, 0)), ("part", (1, 1), "q", ())))))

    def test_whens_and_eaches_bring_to_the_row_around(self):
        lines = (plain(ONE), when(ONE, (plain(ONE),)), each("i", TWO, draw(ONE), plain()), give(ONE), plain())
        self.same(self.spots(*lines),
                  [(1, 0), (1, 1), (1, 2), (None, 0), (1, 3), (None, 1), (1, 4), (None, 2)])

    def test_numbers_at_the_bounds(self):
        self.same(self.spots(plain(num(BOUND)), plain(num(-BOUND)), plain(("add", num(BOUND), ONE))),
                  [(BOUND, 0), (-BOUND, 0), (BOUND, 1)])


class TestOrders(Same):
    def test_sets_and_gives_are_sorted(self):
        pairs = (("b", num(1)), ("a", num(2)), ("ab", num(3)), ("aa", num(-3)))
        told = (("a", 2), ("aa", -3), ("ab", 3), ("b", 1))
        self.same(row_of(part(plain(sets=pairs), draw(gives=pairs))),
                  (want((None, 0), sets=told), ("part", (None, 1), "q", told)))

    def test_hands_and_changes_keep_their_order(self):
        hands = (("z", 3, False, (("b", "set", ONE), ("a", "times", box("c")), ("b", "add", num(-1)))),
                 ("a", 1, True, ()), ("m", 2, True, (("a", "set", ("take", "x")),)))
        self.same(row_of(part(plain(hands=hands)), {("box", "c"): 6, ("take", "x"): 4}),
                  (want((None, 0), hands=(("z", 3, False, (("b", "set", 1), ("a", "times", 6), ("b", "add", -1))),
                                          ("a", 1, True, ()), ("m", 2, True, (("a", "set", 4),)))),))

    def test_works_keep_their_order(self):
        works = (("z", box("a")), ("a", num(-7)), ("m", ("add", ("take", "x"), ("down", "y"))))
        self.same(drawn(part(works=works), {("box", "a"): 1, ("take", "x"): 2, ("down", "y"): 3}),
                  (((("box", "a"), 1), (("down", "y"), 3), (("take", "x"), 2)), (), (("z", 1), ("a", -7), ("m", 5))))

    def test_lines_keep_their_order(self):
        self.same([thing[2] for thing in row_of(part(plain(tag="z"), draw(name="m"), give(name="a"), plain(tag="b")))],
                  ["z", "m", "a", "b"])


class TestReads(Same):
    def test_sorted_and_each_once(self):
        whole = part(plain(("take", "b"), sets=(("x", box("b")), ("y", ("down", "b")), ("z", ("take", "a")))),
                     plain(box("a"), sets=(("x", box("b")),)), works=(("w", ("add", box("b"), ("down", "a"))),))
        self.same(reads_of(whole, {("box", "b"): 1, ("take", "a"): 2, ("down", "b"): 3}),
                  ((("box", "a"), 0), (("box", "b"), 1), (("down", "a"), 0), (("down", "b"), 3),
                   (("take", "a"), 2), (("take", "b"), 0)))

    def test_each_place_asks(self):
        ask = ("take", "x")
        for line in (plain(ask), plain(sets=(("y", ask),)), plain(hands=(("tap", 1, True, (("a", "set", ask),)),)),
                     draw(ask), draw(gives=(("y", ask),)), give(ask), give(number=ask), when(ask), each("i", ask),
                     plain(lines=(plain(ask),)), give(lines=(plain(ask),)), when(ONE, (plain(ask),)),
                     when(num(0), (), (plain(ask),)), each("i", ONE, plain(ask))):
            self.same(reads_of(part(line), {ask: -5}), ((ask, -5),))
            self.same(reads_of(part(line)), ((ask, 0),))
        self.same(reads_of(part(works=(("w", ask),)), {ask: 8}), ((ask, 8),))

    def test_the_other_side_of_a_when_asks_nothing(self):
        whole = part(when(box("a"), (plain(box("b")),), (plain(box("c")),)))
        self.same(reads_of(whole, {("box", "b"): 2}), ((("box", "a"), 0), (("box", "c"), 0)))
        self.same(reads_of(whole, {("box", "a"): 2}), ((("box", "a"), 2), (("box", "b"), 0)))

    def test_an_each_without_turns_asks_nothing_within(self):
        whole = part(each("i", box("a"), plain(box("b"))))
        self.same(reads_of(whole), ((("box", "a"), 0),))
        self.same(reads_of(whole, {("box", "a"): -1}), ((("box", "a"), -1),))
        self.same(reads_of(whole, {("box", "a"): 1}), ((("box", "a"), 1), (("box", "b"), 0)))

    def test_a_turn_beyond_the_eighth_asks_nothing(self):
        whole = part(each("i", box("a"), when(("less", num(7), ("turn", "i")), (plain(box("b")),))))
        self.same(reads_of(whole, {("box", "a"): 20}), ((("box", "a"), 20),))

    def test_the_other_one_of_a_pick_asks_nothing(self):
        pick = ("pick", box("a"), box("b"), box("c"))
        for whole in (part(plain(pick)), part(plain(sets=(("x", pick),))), part(works=(("w", pick),))):
            self.same(reads_of(whole), ((("box", "a"), 0), (("box", "c"), 0)))
            self.same(reads_of(whole, {("box", "a"): 1}), ((("box", "a"), 1), (("box", "b"), 0)))

    def test_turns_are_no_reads(self):
        self.same(reads_of(part(each("i", ONE, plain(("turn", "i"))))), ())

    def test_answers_that_nobody_asks(self):
        answers = {("box", "b"): 1, ("take", "a"): 2, ("down", "a"): 3, ("box", "a"): 4}
        self.same(reads_of(part(plain(box("a"))), answers), ((("box", "a"), 4),))

    def test_boxes_takes_and_downs_of_one_name(self):
        whole = part(plain(box("a"), sets=(("x", ("take", "a")), ("y", ("down", "a")))))
        answers = {("box", "a"): 1, ("take", "a"): 2, ("down", "a"): 3}
        self.same(drawn(whole, answers), (((("box", "a"), 1), (("down", "a"), 3), (("take", "a"), 2)),
                                          (want((1, 0), sets=(("x", 2), ("y", 3))),), ()))

    def test_first_numbers_of_boxes_are_no_answers(self):
        self.same(drawn(part(plain(box("d"))), {}), (((("box", "d"), 0),), (want((0, 0)),), ()))


class TestAnswers(Same):
    def test_answers_stay(self):
        answers = {("box", "a"): 3, ("take", "x"): 1}
        ahead = copy.deepcopy(answers)
        drawn(part(plain(("down", "z")), each("i", box("a"), plain(("turn", "i")))), answers)
        self.same(answers, ahead)

    def test_answers_may_be_changed_behind(self):
        whole = part(plain(box("a")))
        answers = {("box", "a"): 3}
        told = drawn(whole, answers)
        answers[("box", "a")] = 4
        self.same(told, (((("box", "a"), 3),), (want((3, 0)),), ()))
        self.same(drawn(whole, answers)[1], (want((4, 0)),))
        answers.clear()
        self.same(told[0], ((("box", "a"), 3),))

    def test_in_any_order_and_again(self):
        whole = samples.ROOT
        answers = {("box", "count"): 2, ("take", "vol"): 9, ("down", "theme"): 4}
        told = drawn(whole, answers)
        self.same(drawn(whole, dict(reversed(list(answers.items())))), told)
        self.same(drawn(whole, answers), told)


class TestWhole(Same):
    def test_the_sample(self):
        told = drawn(samples.ROOT, {("box", "count"): 2, ("down", "theme"): 3, ("down", "other"): 1})
        hands = (("tap", 2, True, (("count", "add", 1), ("sel", "set", 0))), ("key", 1, False, ()),
                 ("drag", 3, False, (("sel", "times", -2),)))
        page = want((None, 0), "page", (("h", 4), ("w", 10)), hands, (
            ("part", (0, 0), "item", (("big", 0), ("n", 0))), ("part", (1, 0), "item", (("big", 0), ("n", 1))),
            want((1, 1), "dot", (("x", 0),))))
        theme = ("give", (0, 0), "theme", 3, (("part", (5, 0), "item", ()),))
        reads = ((("box", "count"), 2), (("box", "sel"), 0), (("down", "theme"), 3), (("take", "vol"), 0))
        self.same(told, (reads, (page, theme), (("beep", 2), ("hum", 0))))

    def test_made_parts_are_drawn_as_by_another_way(self):
        for start in range(150):
            maker = samples.Maker(start)
            for whole in maker.house():
                answers = maker.answers()
                self.same(drawn(whole, answers), drawn_by(whole, answers))

    def test_a_great_part(self):
        lines = (each("i", num(8), each("j", num(8), *(plain(("turn", "j")),) * 28)),)
        row = row_of(part(*lines))
        self.same(len(row), 1792)
        self.same(row[-1][1], (7, 8 * 28 - 1))
        self.assertIs(lets_piece(part(*lines), ((), row, ())), True)


class TestLetsPiece(unittest.TestCase):
    def setUp(self):
        self.whole = part(
            plain(box("b"), "t", (("x", ("take", "x")), ("y", num(5))),
                  (("tap", 1, True, (("a", "set", ("down", "y")),)), ("key", 2, False, (("b", "add", num(1)),))),
                  (draw(num(3), "q", (("n", box("a")),)),)),
            when(box("c"), (plain(box("d")),), (give(None, "g", ("take", "z"), (plain(),)),)),
            works=(("w", ("add", box("a"), ONE)), ("v", num(4))))
        self.answers = {("box", "a"): 6, ("box", "b"): -2, ("take", "x"): 7, ("down", "y"): 8, ("take", "z"): 9}
        self.piece = drawn(self.whole, self.answers)

    def let_by(self, *things):
        for thing in things:
            self.assertIs(lets_piece(self.whole, thing), True, thing)

    def none(self, *things):
        for thing in things:
            self.assertIs(lets_piece(self.whole, thing), False, thing)

    def test_what_is_drawn(self):
        self.let_by(self.piece, drawn(self.whole, {}), drawn(self.whole, {("box", "c"): 1, ("box", "d"): 2}))

    def test_what_is_drawn_of_made_parts(self):
        for start in range(60):
            maker = samples.Maker(start)
            for whole in maker.house():
                piece = drawn(whole, maker.answers())
                self.assertIs(lets_piece(whole, piece), True, (whole, piece))

    def test_what_is_written_by_hand(self):
        whole = part(plain(box("a")))
        self.assertIs(lets_piece(whole, (((("box", "a"), 3),), (("plain", (3, 0), "t", (), (), ()),), ())), True)
        self.assertIs(lets_piece(whole, (((("box", "a"), 3),), (("plain", (4, 0), "t", (), (), ()),), ())), False)
        self.assertIs(lets_piece(part(), ((), (), ())), True)

    def test_a_read_let_go(self):
        reads = self.piece[0]
        for place in range(len(reads)):
            self.none((reads[:place] + reads[place + 1:],) + self.piece[1:])
        self.none(((),) + self.piece[1:])

    def test_a_read_of_nought_let_go(self):
        piece = drawn(self.whole, {})
        for place in range(len(piece[0])):
            self.assertEqual(piece[0][place][1], 0)
            self.none((piece[0][:place] + piece[0][place + 1:],) + piece[1:])

    def test_a_read_told_twice(self):
        reads = self.piece[0]
        for place, read in enumerate(reads):
            self.none((reads[:place] + (read,) + reads[place:],) + self.piece[1:], (reads + (read,),) + self.piece[1:])
            for other in (read[1] + 1, 0):
                self.none((reads[:place] + ((read[0], other),) + reads[place:],) + self.piece[1:])
                self.none((reads[:place + 1] + ((read[0], other),) + reads[place + 1:],) + self.piece[1:])

    def test_a_read_put_in(self):
        reads = self.piece[0]
        for read in ((("box", "d"), 0), (("box", "d"), 1), (("down", "x"), 0), (("take", "y"), 3), (("box", "e"), 0)):
            self.none((tuple(sorted(reads + (read,))),) + self.piece[1:])
        self.assertIs(lets_piece(part(), (((("box", "a"), 0),), (), ())), False)

    def test_a_read_turned_to_another_number(self):
        reads = self.piece[0]
        for place, read in enumerate(reads):
            for number in (read[1] + 1, read[1] - 1, BOUND):
                self.none((swapped(reads, place, (read[0], number)),) + self.piece[1:])

    def test_a_number_that_changes_nothing_drawn(self):
        whole = part(when(box("a"), (plain(),)))
        row = (("plain", (None, 0), "t", (), (), ()),)
        for number in (1, 2, -1, BOUND):
            self.assertIs(lets_piece(whole, (((("box", "a"), number),), row, ())), True)
        for number in (BOUND + 1, 10 ** 20, True, "1", None):
            self.assertIs(lets_piece(whole, (((("box", "a"), number),), row, ())), False)
        self.assertIs(lets_piece(whole, (((("box", "a"), 0),), row, ())), False)

    def test_two_turned_about(self):
        reads = self.piece[0]
        for place in range(len(reads) - 1):
            self.none((reads[:place] + (reads[place + 1], reads[place]) + reads[place + 2:],) + self.piece[1:])
        self.none((reads[::-1],) + self.piece[1:])

    def test_the_row_or_the_works_of_other_answers(self):
        other = drawn(self.whole, {("box", "a"): 1, ("box", "c"): 1})
        reads, row, works = self.piece
        self.none((other[0], row, works), (reads, other[1], works), (reads, row, other[2]))
        self.none((reads, other[1], other[2]), (other[0], other[1], works), (other[0], row, other[2]))
        self.none((reads, (), works), (reads, row, ()), (reads, row + row, works), (reads, row, works[::-1]))

    def test_pieces_of_other_parts(self):
        other = part(*self.whole[3], works=self.whole[2][::-1])
        self.none(drawn(other, self.answers), drawn(part(*self.whole[3][::-1], works=self.whole[2]), self.answers))

    def test_a_list_in_the_place_of_a_tuple(self):
        self.none(*samples.variants(self.piece, samples.as_list))

    def test_a_truth_in_the_place_of_a_number(self):
        whole = part(plain(box("a"), sets=(("x", box("a")),), hands=(("tap", 1, True, (("a", "set", ONE),)),)),
                     give(number=ONE, lines=(draw(ONE, gives=(("x", ONE),)),)), works=(("w", box("a")), ("v", ONE)))
        for number in (0, 1):
            piece = drawn(whole, {("box", "a"): number})
            self.assertIs(lets_piece(whole, piece), True)
            changed = samples.variants(piece, lambda thing: [bool(thing)] if samples.as_truth(thing) else [])
            self.assertGreater(len(changed), 12)
            for thing in changed:
                self.assertIs(lets_piece(whole, thing), False, thing)

    def test_no_truth_where_one_is_to_stand(self):
        changed = samples.variants(self.piece, samples.as_no_truth)
        self.assertEqual(len(changed), 6)
        self.none(*changed)

    def test_other_things_at_any_place(self):
        self.none(*samples.variants(self.piece, samples.as_no_text))
        self.none(*samples.variants(self.piece, lambda thing: [thing + 1] if samples.as_truth(thing) else []))
        self.none(*samples.variants(self.piece, lambda thing: [(thing, thing)]))
        self.none(*samples.variants(self.piece, lambda thing: [None] if thing is not None else [0]))
        self.none(*samples.variants(self.piece, samples.as_longer))
        self.none(*samples.variants(self.piece, samples.as_shorter))

    def test_no_pieces(self):
        for whole in (self.whole, part(plain()), part(plain(box("a")))):
            for thing in WRONG:
                self.assertIs(lets_piece(whole, thing), False, thing)
        self.none(self.piece + ((),), self.piece[:2], self.piece[1:], (self.piece,), (self.piece[0],) * 3)
        self.none({0: self.piece[0], 1: self.piece[1], 2: self.piece[2]}, list(self.piece))

    def test_no_reads(self):
        for thing in WRONG + ("reads", (1, 2), (("box", "a"), 3)):
            if thing != ():
                self.none((thing,) + self.piece[1:])
            self.none(((thing,),) + self.piece[1:], (self.piece[0] + (thing,),) + self.piece[1:])

    def test_no_read(self):
        whole = part(plain(("add", box("a"), ("take", "b"))))
        for read in (("box", "a"), (("box", "a"),), (("box", "a"), 1, 1), [("box", "a"), 1], (["box", "a"], 1),
                     ({"box": "a"}, 1), (("box",), 1), (("box", "a", "a"), 1), ("box", 1), (("box", ["a"]), 1),
                     ((["box"], "a"), 1), (("num", "a"), 1), (("turn", "a"), 1), (("box", "A"), 1), (("box", 1), 1),
                     (("box", "a"), [1]), (("box", "a"), None), ((True, "a"), 1), (("box", "a"), "1")):
            piece = ((read, (("take", "b"), 1)), (("plain", (2, 0), "t", (), (), ()),), ())
            self.assertIs(lets_piece(whole, piece), False, piece)

    def test_deep_things(self):
        deep = ()
        for place in range(90):
            deep = (deep,)
        self.none(deep, (deep, (), ()), ((), deep, ()), ((), (), deep), (self.piece[0], deep, self.piece[2]))
        self.none(((((deep, "a"), 1),), (), ()), (((("box", deep), 1),), (), ()), (((("box", "a"), deep),), (), ()))

    def test_what_is_handed_in_stays(self):
        for thing in ([list(self.piece)], ({"a": [1]}, [], {}), (list(self.piece[0]), [self.piece[1]], {})):
            ahead = copy.deepcopy(thing)
            lets_piece(self.whole, thing)
            self.assertEqual(repr(thing), repr(ahead))


class TestLikeAnswers(unittest.TestCase):
    def test_a_piece_is_that_of_all_answers_that_have_its_reads(self):
        for start in range(60):
            maker = samples.Maker(start)
            for whole in maker.house():
                piece = drawn(whole, maker.answers())
                answers = maker.answers()
                answers.update(dict(piece[0]))
                self.assertEqual(repr(drawn(whole, answers)), repr(piece))

    def test_answers_of_nought_and_none_are_alike(self):
        for start in range(40):
            maker = samples.Maker(start)
            for whole in maker.house():
                answers = maker.answers()
                some = {question: number for question, number in answers.items() if number != 0}
                self.assertEqual(repr(drawn(whole, some)), repr(drawn(whole, answers)))


if __name__ == "__main__":
    unittest.main()
