import copy
import unittest

import samples
from samples import BOUND, ONE, chain, swapped
from viewwood.houses import behind, is_house, is_part, part_of

PLAIN = ("plain", None, "tag", (), (), ())
NAMES = ("a", "b", "c", "d", "e", "f", "g", "h")
WRONG = (None, True, False, 0, 1, -1, 10 ** 60 - 1, "", "a", "part", (), ((),), ("a",), [], {}, {"a": 1}, [()], PLAIN)


def part(name="p", boxes=(), works=(), lines=()):
    return (name, boxes, works, lines)


def draw(name):
    return ("part", None, name, ())


def drawing(name, *others):
    """A part that draws these others, in this order."""
    return part(name, lines=tuple(draw(other) for other in others))


def boxes_of(count):
    return tuple((name, place) for place, name in enumerate(NAMES[:count]))


def works_of(count):
    return tuple((name, ("num", place)) for place, name in enumerate(NAMES[:count]))


class TestIsPart(unittest.TestCase):
    def let_by(self, *things):
        for thing in things:
            self.assertIs(is_part(thing), True, thing)

    def none(self, *things):
        for thing in things:
            self.assertIs(is_part(thing), False, thing)

    def test_parts(self):
        self.let_by(part(), part("abcdefgh", boxes_of(2), works_of(3), (PLAIN, PLAIN)))
        self.let_by(*samples.HOUSE)

    def test_made_parts(self):
        for start in range(60):
            self.let_by(*samples.Maker(start).house())

    def test_which_parts_are_named_is_not_asked(self):
        self.let_by(drawing("p", "p", "q", "nobody"))

    def test_no_parts(self):
        self.none(*WRONG)
        self.none("part", list(part()), {"p": part()}, (part(),), ("part",) + part())

    def test_one_thing_more_or_fewer(self):
        whole = part("p", boxes_of(1), works_of(1), (PLAIN,))
        for place in range(4):
            self.none(whole[:place] + whole[place + 1:])
        for more in (None, (), "p", ONE):
            self.none(whole + (more,), (more,) + whole, whole[:2] + (more,) + whole[2:])
        for thing in ((), ("a",), (1,), ("a", 1, 1), ("a", 1, None), ("a", "a", 1), 1, None, "a", "ab", ["a", 1], {}):
            self.none(part(boxes=(thing,)), part(boxes=(("b", 1), thing)))
        for thing in ((), ("a",), (ONE,), ("a", ONE, ONE), ("a", ONE, None), ("a", "a", ONE), 1, None, "ab",
                      ["a", ONE]):
            self.none(part(works=(thing,)), part(works=(("b", ONE), thing)))

    def test_things_in_the_place_of_boxes_works_and_lines(self):
        for thing in WRONG:
            if thing != ():
                self.none(part(boxes=thing), part(works=thing), part(lines=thing))
        self.none(part(boxes=[("a", 1)]), part(works=[("a", ONE)]), part(lines=[PLAIN]))
        self.none(part(boxes={"a": 1}), part(boxes="ab"), part(boxes=("ab",)))

    def test_one_thing_more_or_fewer_at_any_place(self):
        for whole in samples.HOUSE:
            self.none(*samples.variants(whole, samples.as_resized))
            self.none(*samples.variants(whole, samples.as_holed))

    def test_a_list_in_the_place_of_a_tuple(self):
        for whole in samples.HOUSE:
            self.none(*samples.variants(whole, samples.as_list))

    def test_a_truth_in_the_place_of_a_number(self):
        for whole in samples.HOUSE:
            self.none(*samples.variants(whole, samples.as_truth))

    def test_no_truth_where_one_is_to_stand(self):
        for whole in samples.HOUSE:
            self.none(*samples.variants(whole, samples.as_no_truth))

    def test_no_text_where_one_is_to_stand(self):
        for whole in samples.HOUSE:
            self.none(*samples.variants(whole, samples.as_no_text))

    def test_names(self):
        for thing in ("", "abcdefghi", "A", "a1", "a b", "-", 1, True, None, (), ("a",), ["a"], {}):
            self.none(part(thing), part(boxes=((thing, 1),)), part(works=((thing, ONE),)))
        name = "abcdefgh"
        self.let_by(part(name, ((name, 1),), ((name, ("box", name)),)))

    def test_first_numbers(self):
        self.let_by(*[part(boxes=(("a", number),)) for number in (0, 1, -1, BOUND, -BOUND)])
        for thing in (BOUND + 1, -BOUND - 1, True, False, None, "1", "a", (), (1,), [1], ONE):
            self.none(part(boxes=(("a", thing),)), part(boxes=(("b", 1), ("a", thing))))

    def test_four_and_five_boxes(self):
        self.let_by(*[part(boxes=boxes_of(count)) for count in range(5)])
        self.none(*[part(boxes=boxes_of(count)) for count in range(5, 9)])

    def test_four_and_five_works(self):
        self.let_by(*[part(works=works_of(count)) for count in range(5)])
        self.none(*[part(works=works_of(count)) for count in range(5, 9)])

    def test_names_told_twice(self):
        self.none(part(boxes=(("a", 1), ("a", 2))), part(boxes=(("a", 1), ("b", 1), ("c", 1), ("a", 1))))
        self.none(part(works=(("a", ONE), ("a", ("num", 2)))), part(works=(("a", ONE), ("b", ONE), ("a", ONE))))
        self.let_by(part("a", (("a", 1), ("b", 1)), (("a", ONE), ("b", ONE))))

    def test_reckonings_of_works(self):
        for reckoning in (("box", "a"), ("take", "b"), ("down", "b"), ("less", ("box", "b"), ("take", "a")), chain(20)):
            self.let_by(part(boxes=boxes_of(2), works=(("w", ONE), ("x", reckoning))))
        for thing in (1, None, (), "a", ("num", True), ["num", 1], ("add", ONE), chain(21), chain(22)):
            self.none(part(works=(("w", thing),)), part(works=(("w", ONE), ("x", thing))))

    def test_boxes_that_are_none_of_the_parts(self):
        for deep in (1, 4, 7):
            reckoning = chain(deep, ("box", "c"))
            self.none(part(boxes=boxes_of(2), works=(("w", reckoning),)), part(works=(("w", reckoning),)))
            self.let_by(part(boxes=boxes_of(3), works=(("w", reckoning),)))
            for line in (("plain", reckoning, "t", (), (), ()), ("plain", None, "t", (("x", reckoning),), (), ()),
                         ("part", None, "q", (("x", reckoning),)), ("when", reckoning, (), ()),
                         ("plain", None, "t", (), (("tap", 1, True, (("a", "set", reckoning),)),), ())):
                self.none(part(boxes=boxes_of(2), lines=(line,)), part(boxes=boxes_of(2), lines=(PLAIN, line)))
                self.let_by(part(boxes=boxes_of(3), lines=(line,)))
        hand = ("plain", None, "t", (), (("tap", 1, True, (("c", "set", ONE),)),), ())
        self.none(part(boxes=boxes_of(2), lines=(hand,)))
        self.let_by(part(boxes=boxes_of(3), lines=(hand,)))

    def test_a_work_is_no_box(self):
        self.none(part(works=(("w", ONE), ("x", ("box", "w")))), part("p", works=(("w", ("box", "p")),)))

    def test_turns_in_works(self):
        each = ("each", "i", ONE, (("plain", ("turn", "i"), "t", (), (), ()),))
        self.let_by(part(lines=(each,)))
        for reckoning in (("turn", "i"), chain(4, ("turn", "i"))):
            self.none(part(works=(("w", reckoning),), lines=(each,)), part(works=(("i", reckoning),)))
            self.none(part(boxes=(("i", 1),), works=(("w", reckoning),)))

    def test_deep_things(self):
        deep = ()
        for place in range(90):
            deep = (deep,)
        self.none(deep, part(deep), part(boxes=deep), part(works=deep), part(lines=deep))
        self.none(part(boxes=(("a", deep),)), part(works=(("a", deep),)), part(boxes=((deep, 1),)))


class TestIsHouse(unittest.TestCase):
    def let_by(self, *things):
        for thing in things:
            self.assertIs(is_house(thing), True, thing)

    def none(self, *things):
        for thing in things:
            self.assertIs(is_house(thing), False, thing)

    def test_houses(self):
        self.let_by(samples.HOUSE, (part(),), (part("a"), part("b")))

    def test_made_houses(self):
        for start in range(60):
            self.let_by(samples.Maker(start).house())

    def test_one_to_six_and_seven(self):
        self.let_by(*[tuple(part(name) for name in NAMES[:count]) for count in range(1, 7)])
        self.none((), *[tuple(part(name) for name in NAMES[:count]) for count in (7, 8)])

    def test_no_houses(self):
        self.none(*WRONG)
        self.none(part(), [part()], {"p": part()}, (part(), None), (None, part()), (part(), ()), (list(part()),))
        self.none((part("a"), [part("b")]), (part("a"), (part("b"),)))

    def test_a_part_that_is_none(self):
        for place in range(3):
            for thing in (part("a", boxes_of(5)), part("a", lines=(None,)), part("A"), part(lines=(PLAIN,) * 31)):
                self.none(swapped((part("x"), part("y"), part("z")), place, thing))

    def test_names_told_twice(self):
        self.none((part("a"), part("a")), (part("a"), part("b"), part("a")), (part("a"), part("b"), part("b")))
        self.none((part("a", boxes_of(1)), part("a", boxes_of(2))))

    def test_lists_truths_and_texts_within(self):
        for change in (samples.as_list, samples.as_truth, samples.as_no_truth, samples.as_no_text, samples.as_resized,
                       samples.as_holed):
            self.none(*samples.variants(samples.HOUSE, change))

    def test_parts_that_stand_behind(self):
        self.let_by((drawing("a", "b", "c", "b"), drawing("b", "c", "c"), part("c")))

    def test_its_own_part(self):
        self.none((drawing("a", "a"),), (part("a"), drawing("b", "b")), (drawing("a", "b", "a"), part("b")))

    def test_a_part_ahead(self):
        self.none((part("a"), drawing("b", "a")), (drawing("a", "b"), drawing("b", "c"), drawing("c", "a")))
        self.none((part("a"), part("b"), drawing("c", "b")))

    def test_a_part_that_is_none_of_the_house(self):
        self.none((drawing("a", "b"),), (drawing("a", "c"), part("b")), (drawing("a", "b", "c"), part("b")))

    def test_parts_in_another_order(self):
        house = (drawing("a", "b", "c"), drawing("b", "c"), part("c"))
        self.let_by(house)
        self.none((house[1], house[0], house[2]), (house[0], house[2], house[1]), house[::-1], house[1:] + house[:1])
        self.let_by(house[1:], house[2:])
        self.none(house[:2], house[:1])

    def test_the_name_is_looked_at_wherever_the_line_stands(self):
        for lines in ((PLAIN, draw("b")), (draw("c"), draw("b")),
                      (("plain", None, "t", (), (), (draw("b"),)),), (("give", None, "g", ONE, (draw("b"),)),),
                      (("when", ONE, (draw("b"),), ()),), (("when", ONE, (), (draw("b"),)),),
                      (("each", "i", ONE, (draw("b"),)),),
                      (("plain", None, "t", (), (), (("when", ONE, (), (PLAIN, PLAIN, draw("b"), PLAIN)),)), PLAIN)):
            first = part("a", lines=lines)
            self.let_by((first, part("b"), part("c")), (first, part("c"), part("b")))
            self.none((first, part("c")), (part("b"), first, part("c")), (swapped(first, 0, "b"), part("c")))

    def test_tags_and_gives_are_no_parts(self):
        lines = (("plain", None, "x", (("x", ONE),), (), ()), ("give", None, "x", ONE, ()), ("each", "x", ONE, ()),
                 ("part", None, "b", (("x", ONE),)))
        self.let_by((part("a", lines=lines), part("b")))
        self.none((part("a", lines=lines), part("x")))

    def test_what_is_handed_in_stays(self):
        for thing in ([part(), [1, {"a": [2]}]], (part("a"), [part("b")]), ({"a": part()},)):
            ahead = copy.deepcopy(thing)
            is_house(thing)
            is_part(thing)
            self.assertEqual(repr(thing), repr(ahead))


class TestByName(unittest.TestCase):
    def setUp(self):
        self.house = (drawing("a", "b"), part("b", boxes_of(2)), part("c", lines=(PLAIN,)))

    def test_part_of(self):
        for whole in self.house:
            self.assertEqual(repr(part_of(self.house, whole[0])), repr(whole))
        self.assertEqual(repr(part_of(samples.HOUSE, "item")), repr(samples.ITEM))

    def test_part_of_another_name(self):
        for name in ("d", "aa", "tag", "part", "abcdefgh"):
            self.assertIsNone(part_of(self.house, name))
        self.assertIsNone(part_of(self.house[:1], "b"))

    def test_behind(self):
        self.assertEqual(repr(behind(self.house, "a")), repr(["b", "c"]))
        self.assertEqual(repr(behind(self.house, "b")), repr(["c"]))
        self.assertEqual(repr(behind(self.house, "c")), repr([]))
        self.assertEqual(repr(behind((part("z"), part("y"), part("a"), part("m")), "z")), repr(["y", "a", "m"]))
        self.assertEqual(repr(behind((part("z"),), "z")), repr([]))

    def test_told_lists_are_the_askers_own(self):
        told = behind(self.house, "a")
        told.append("x")
        told[0] = "y"
        self.assertEqual(behind(self.house, "a"), ["b", "c"])
        behind(self.house, "c").append("x")
        self.assertEqual(behind(self.house, "c"), [])


if __name__ == "__main__":
    unittest.main()
