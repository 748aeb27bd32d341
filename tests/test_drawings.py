import copy
import unittest

import samples
from building import house_of, none
from making import made_cases
from otherway import answers_by, drawing_by
from samples import BOUND, as_list, as_truth, swapped, variants
from viewwood.drawings import afresh, answers_at, boxes_at, lets_drawing, lets_entry
from viewwood.houses import part_of
from viewwood.pieces import drawn, lets_piece

WRONG = (None, True, False, 0, 1, -1, 10 ** 60 - 1, "", "a", "drawing", (), ((),), ((), (), (), (), ()), {}, {(): ()},
         [], [()], [[]], [None], ("", "", "", "", ""), ((), "root", (), ()), ((), "root", (), (), ()),
         ((), "root", (), (), ((), (), ())), ((), "root", (), (), None), ((), "root", (), (), [(), (), ()]))

SHOP = house_of("""
    part shop
    box count 2
    box spare 1
    box price 1
    plain list -
        set n box count
        hand tap 1 last
            change count add 1
            change price set 0
        give price box price -
            each i box count
                draw item turn i
                    with at turn i
            end
        end
    end
    draw foot 1
    part item
    box on 1
    box idle 0
    work ring add box on take at
    plain row take at
        set p down price
        hand tap 2 on
            change on set less box on 1
        when box on
            draw foot -
                with at 1
        else
        end
    end
    part foot
    box calm 0
    plain end -
        set at take at
        set p down price
    end""")
LIST = (none(), none())
SHOP_PATHS = [
    ((), "shop"), (LIST + ((0, 0),), "item"), (LIST + ((0, 0), (0, 0), none()), "foot"), (LIST + ((1, 0),), "item"),
    (LIST + ((1, 0), (1, 0), none()), "foot"), (((1, 0),), "foot")]


def as_text(thing):
    return [str(thing)] if as_truth(thing) else []


def as_none(thing):
    return [0] if thing is None else [None]


class Same(unittest.TestCase):
    def same(self, told, right):
        self.assertEqual(repr(told), repr(right))


class TestAnswersAt(Same):
    def test_none(self):
        self.same(answers_at((), (), ()), {})

    def test_each_sort(self):
        self.assertEqual(answers_at((("a", 1), ("b", -2)), (), ()), {("take", "a"): 1, ("take", "b"): -2})
        self.assertEqual(answers_at((), (("a", 1), ("b", -2)), ()), {("down", "a"): 1, ("down", "b"): -2})
        self.assertEqual(answers_at((), (), (("b", 1), ("a", BOUND))), {("box", "a"): BOUND, ("box", "b"): 1})

    def test_names_alike_in_all_three_sorts(self):
        self.assertEqual(answers_at((("a", 1), ("b", 4)), (("a", 2),), (("a", 3),)),
                         {("take", "a"): 1, ("take", "b"): 4, ("down", "a"): 2, ("box", "a"): 3})
        self.assertEqual(answers_at((("a", 0),), (("a", 0),), (("a", 0),)),
                         {("take", "a"): 0, ("down", "a"): 0, ("box", "a"): 0})

    def test_told_dicts_are_the_askers_own(self):
        things = ((("a", 1),), (("b", 2),), (("c", 3),))
        right = {("take", "a"): 1, ("down", "b"): 2, ("box", "c"): 3}
        told = answers_at(*things)
        kept = answers_at(*things)
        told[("take", "a")] = 5
        told[("down", "z")] = 6
        self.assertEqual(answers_at(*things), right)
        told.clear()
        answers_at((), (), ())[("box", "c")] = 8
        self.assertEqual(answers_at(*things), right)
        self.assertEqual(answers_at((), (), ()), {})
        self.assertEqual(kept, right)


class TestBoxesAt(Same):
    part = part_of(SHOP, "item")
    first = (("on", 1), ("idle", 0))

    def test_a_path_that_the_values_lack(self):
        for values in ({}, {(): ("item", (("on", 5), ("idle", 6)))}, {((1, 0),): ("item", (("on", 5), ("idle", 6)))},
                       {((2, 0), (3, 0)): ("item", (("on", 5), ("idle", 6)))}):
            self.same(boxes_at(self.part, values, ((2, 0),)), self.first)
        self.same(boxes_at(self.part, {((2, 0),): ("item", (("on", 5), ("idle", 6)))}, ()), self.first)

    def test_a_path_that_the_values_have(self):
        for path in ((), ((2, 0),), (none(), (-3, 1), (0, 0))):
            values = {path: ("item", (("on", -5), ("idle", 0))), ((9, 9),): ("item", (("on", 7), ("idle", 7)))}
            self.same(boxes_at(self.part, values, path), (("on", -5), ("idle", 0)))

    def test_a_path_under_another_parts_name(self):
        values = {((2, 0),): ("foot", (("calm", 4),)), ((3, 0),): ("itemm", (("on", 5), ("idle", 6)))}
        self.same(boxes_at(self.part, values, ((2, 0),)), self.first)
        self.same(boxes_at(self.part, values, ((3, 0),)), self.first)
        self.same(boxes_at(part_of(SHOP, "foot"), values, ((2, 0),)), (("calm", 4),))

    def test_a_part_without_boxes(self):
        values = {(): ("foot", ()), ((1, 0),): ("item", (("on", 5), ("idle", 6)))}
        for path in ((), ((1, 0),), ((2, 0),)):
            self.same(boxes_at(samples.FOOT, values, path), ())

    def test_values_stay_and_may_be_changed_behind(self):
        values = {((2, 0),): ("item", (("on", 5), ("idle", 6)))}
        ahead = copy.deepcopy(values)
        told = boxes_at(self.part, values, ((2, 0),))
        lacking = boxes_at(self.part, values, ((3, 0),))
        self.same(values, ahead)
        values[((2, 0),)] = ("item", (("on", 7), ("idle", 8)))
        self.same(told, (("on", 5), ("idle", 6)))
        self.same(boxes_at(self.part, values, ((2, 0),)), (("on", 7), ("idle", 8)))
        values.clear()
        self.same(told, (("on", 5), ("idle", 6)))
        self.same(lacking, self.first)
        self.same(boxes_at(self.part, values, ((2, 0),)), self.first)


class TestAfresh(Same):
    def test_one_part(self):
        house = house_of("part root; box n 2; work w box n; plain t box n; end")
        self.same(afresh(house, {}), [((), "root", (), (), (((("box", "n"), 2),), (
            ("plain", (2, 0), "t", (), (), ()),), (("w", 2),)))])
        self.same(afresh(house, {(): ("root", (("n", 5),))}), [((), "root", (), (), (((("box", "n"), 5),), (
            ("plain", (5, 0), "t", (), (), ()),), (("w", 5),)))])

    def test_a_part_that_draws_nothing(self):
        self.same(afresh((samples.FOOT,), {}), [((), "foot", (), (), ((), (), ()))])

    def test_the_shop(self):
        told = afresh(SHOP, {})
        self.same([entry[:2] for entry in told], SHOP_PATHS)
        self.same([entry[2] for entry in told], [(), (("at", 0),), (("at", 1),), (("at", 1),), (("at", 1),), ()])
        price = (("price", 1),)
        self.same([entry[3] for entry in told], [(), price, price, price, price, ()])
        self.same(told[3][4], (
            ((("box", "on"), 1), (("down", "price"), 1), (("take", "at"), 1)),
            (("plain", (1, 0), "row", (("p", 1),), (("tap", 2, False, (("on", "set", 0),)),),
              (("part", none(), "foot", (("at", 1),)),)),),
            (("ring", 2),)))
        self.same(told[5][4], (((("down", "price"), 0), (("take", "at"), 0)),
                               (("plain", none(), "end", (("at", 0), ("p", 0)), (), ()),), ()))

    def test_values_of_some_paths(self):
        values = {(): ("shop", (("count", 1), ("spare", 0), ("price", -7))),
                  LIST + ((0, 0),): ("item", (("on", 0), ("idle", 3))),
                  LIST + ((1, 0),): ("item", (("on", 4), ("idle", 3)))}
        told = afresh(SHOP, values)
        self.same([entry[:4] for entry in told], [
            ((), "shop", (), ()), (LIST + ((0, 0),), "item", (("at", 0),), (("price", -7),)),
            (((1, 0),), "foot", (), ())])
        self.same(told[1][4][0], ((("box", "on"), 0), (("down", "price"), -7), (("take", "at"), 0)))

    def test_values_that_count_for_nothing(self):
        right = afresh(SHOP, {})
        big = (("count", 7), ("spare", 7), ("price", 7))
        for values in ({((1, 0),): ("shop", big)}, {((5, 5),): ("shop", big)}, {(): ("foot", (("calm", 3),))},
                       {(): ("item", (("on", 3), ("idle", 3)))}, {LIST: ("item", (("on", 0), ("idle", 0)))},
                       {LIST + ((0, 0),): ("foot", (("calm", 0),)), LIST + ((0, 0), (0, 0)): ("foot", (("calm", 0),))},
                       {LIST + ((2, 0),): ("item", (("on", 0), ("idle", 0)))}):
            self.same(afresh(SHOP, values), right)

    def test_houses_of_one_to_six_parts(self):
        sizes = {}
        for case in made_cases(400, 1):
            for values, right in zip(case.values, case.drawings):
                self.same(afresh(case.house, values), right)
            sizes[len(case.house)] = True
        self.same(sorted(sizes), [1, 2, 3, 4, 5, 6])

    def test_six_parts_within_one_another(self):
        names = ("a", "b", "c", "d", "e", "f")
        text = ""
        for place, name in enumerate(names):
            given = "zyx"[place // 2]
            text += "part %s; box n %d; give %s add 1 down %s -;" % (name, place, given, given)
            text += "plain t box n;" + "".join("draw %s -; with n box n;" % name for name in names[place + 1:place + 2])
            text += "end; end;"
        house = house_of(text)
        told = afresh(house, {})
        self.same([entry[1] for entry in told], list(names))
        self.same(told[5][0], sum([(none(), (place, 0), none()) for place in range(5)], ()))
        self.same(told[5][2:4], ((("n", 4),), (("x", 1), ("y", 2), ("z", 2))))
        self.same(told, drawing_by(house, {}))

    def test_values_stay_and_may_be_changed_behind(self):
        values = {(): ("shop", (("count", 1), ("spare", 0), ("price", -7)))}
        ahead = copy.deepcopy(values)
        told = afresh(SHOP, values)
        kept = copy.deepcopy(told)
        self.same(values, ahead)
        values[()] = ("shop", (("count", 3), ("spare", 0), ("price", 2)))
        self.same(told, kept)
        self.same(len(afresh(SHOP, values)), 8)
        values.clear()
        self.same(told, kept)

    def test_two_houses_in_turn(self):
        other = house_of("part shop; box count 1; draw item -; part item; plain one -; end")
        values = {(): ("shop", (("count", 4),))}
        first, second = afresh(SHOP, {}), afresh(other, values)
        self.same(len(second), 2)
        for turn in range(3):
            self.same(afresh(SHOP, {}), first)
            self.same(afresh(other, values), second)

    def test_told_lists_are_the_askers_own(self):
        told = afresh(SHOP, {})
        kept = afresh(SHOP, {})
        right = copy.deepcopy(told)
        told[0] = told[1]
        told.pop()
        self.same(afresh(SHOP, {}), right)
        told.clear()
        self.same(afresh(SHOP, {}), right)
        self.same(kept, right)


class Lets(unittest.TestCase):
    """Asks of things whether they are let by, as drawings and as entries behind those ahead."""

    def setUp(self):
        self.house = SHOP
        self.values = {LIST + ((1, 0),): ("item", (("on", 0), ("idle", 1))), ((1, 0),): ("foot", (("calm", 1),))}
        self.drawing = drawing_by(self.house, self.values)

    def asks(self, things, values=None):
        return lets_drawing(self.house, self.values if values is None else values, things)

    def let_by(self, *drawings):
        for thing in drawings:
            self.assertIs(self.asks(thing), True, thing)

    def none(self, *drawings):
        for thing in drawings:
            self.assertIs(self.asks(thing), False, thing)

    def entry(self, place, thing):
        return lets_entry(self.house, self.values, self.drawing[:place], thing)

    def no_entry(self, place, *things):
        """Neither let by behind those ahead nor, in its place, within the drawing."""
        for thing in things:
            self.assertIs(self.entry(place, thing), False, thing)
            self.none(self.drawing[:place] + [thing] + self.drawing[place + 1:])

    def turned(self, place, at, put):
        """The entry at a place with another thing in it."""
        return swapped(self.drawing[place], at, put)


class TestLetsDrawing(Lets):
    def test_the_drawing_afresh(self):
        self.let_by(self.drawing, afresh(self.house, self.values))
        self.assertIs(lets_drawing(self.house, {}, afresh(self.house, {})), True)

    def test_a_drawing_by_hand(self):
        house = house_of("part root; box n 2; plain t box n; end")
        reads, row = ((("box", "n"), 2),), (("plain", (2, 0), "t", (), (), ()),)
        self.assertIs(lets_drawing(house, {}, [((), "root", (), (), (reads, row, ()))]), True)
        self.assertIs(lets_drawing(house, {}, [((), "root", (), (), (reads, (), ()))]), False)
        self.assertIs(lets_drawing(house, {(): ("root", (("n", 3),))}, [((), "root", (), (), (reads, row, ()))]), False)

    def test_made_drawings(self):
        for case in made_cases(300, 1):
            for values, drawing in zip(case.values, case.drawings):
                self.assertIs(lets_drawing(case.house, values, drawing), True)

    def test_made_drawings_of_other_values(self):
        seen = 0
        for case in made_cases(300, 2):
            for values, right in zip(case.values, case.drawings):
                for other in case.drawings:
                    self.assertIs(lets_drawing(case.house, values, other), repr(other) == repr(right))
                    seen += repr(other) != repr(right)
        self.assertGreater(seen, 500)

    def test_no_drawings(self):
        self.none(*WRONG)
        self.none(tuple(self.drawing), {place: entry for place, entry in enumerate(self.drawing)}, [self.drawing],
                  [tuple(self.drawing)], self.drawing[0], list(self.drawing[0]))
        for thing in WRONG:
            self.none([thing], self.drawing + [thing], [thing] + self.drawing, self.drawing[:2] + [thing])

    def test_no_entries(self):
        self.none([])
        self.assertIs(lets_drawing((samples.FOOT,), {}, []), False)

    def test_entries_let_go(self):
        for place in range(len(self.drawing)):
            self.none(self.drawing[:place] + self.drawing[place + 1:], self.drawing[:place], self.drawing[place + 1:])

    def test_an_entry_told_twice(self):
        for place, entry in enumerate(self.drawing):
            self.none(self.drawing[:place] + [entry] + self.drawing[place:])
            self.none(self.drawing + [entry], [entry] + self.drawing)

    def test_neighbours_turned_about(self):
        for place in range(len(self.drawing) - 1):
            two = self.drawing[place:place + 2]
            self.none(self.drawing[:place] + two[::-1] + self.drawing[place + 2:])
        self.none(self.drawing[::-1])

    def test_one_more_that_nobody_asks_for(self):
        for path in (((1, 1),), ((7, 0),), LIST + ((2, 0),), ()):
            more = (path,) + self.drawing[-1][1:]
            self.none(self.drawing + [more], self.drawing[:3] + [more] + self.drawing[3:])

    def test_numbers_of_boxes_that_some_part_reads(self):
        item = LIST + ((0, 0),)
        for path, name, boxes in (
                ((), "shop", (("count", 3), ("spare", 1), ("price", 1))),
                ((), "shop", (("count", 2), ("spare", 1), ("price", 0))), (item, "item", (("on", 0), ("idle", 0))),
                (item, "item", (("on", 2), ("idle", 0))), (LIST + ((1, 0),), "foot", (("calm", 0),))):
            values = dict(self.values)
            values[path] = (name, boxes)
            self.assertIs(self.asks(self.drawing, values), False, values)
            self.assertIs(lets_drawing(self.house, self.values, afresh(self.house, values)), False)
            self.assertIs(self.asks(afresh(self.house, values), values), True)

    def test_numbers_of_boxes_that_no_part_reads(self):
        for path, name, boxes in (
                ((), "shop", (("count", 2), ("spare", 9), ("price", 1))),
                (LIST + ((1, 0),), "item", (("on", 0), ("idle", -9))), (((1, 0),), "foot", (("calm", 8),)),
                (((8, 0),), "foot", (("calm", 8),)), ((none(),), "item", (("on", 0), ("idle", 0)))):
            values = dict(self.values)
            values[path] = (name, boxes)
            self.assertIs(self.asks(self.drawing, values), True, values)

    def test_of_another_house(self):
        for part in range(3):
            for lines in ((), self.house[part][3][:-1] if part == 0 else (), self.house[part][3] * 2):
                house = swapped(self.house, part, self.house[part][:3] + (lines,))
                self.assertIs(lets_drawing(house, self.values, self.drawing), False)
                self.assertIs(lets_drawing(house, self.values, afresh(house, self.values)), True)

    def test_great_drawings_are_looked_at_entry_by_entry(self):
        # Drawn whole this would be some billions of parts.
        text = "".join("part %s; box n 8; each i box n; each j 8; draw %s turn j; end; end;" % (name, inner)
                       for name, inner in zip("abcde", "bcdef"))
        house = house_of(text + "part f")
        done = []
        for name in "abcdef":
            path = tuple((0, 0) for place in done)
            piece = drawn(part_of(house, name), {("box", "n"): 8})
            entry = (path, name, (), (), piece)
            self.assertIs(lets_drawing(house, {}, done), False)
            self.assertIs(lets_entry(house, {}, done, entry), True)
            self.assertIs(lets_entry(house, {}, done, entry[:4] + (drawn(part_of(house, name), {("box", "n"): 1}),)),
                          name == "f")
            done.append(entry)
        self.assertIs(lets_drawing(house, {}, done), False)
        self.assertIs(lets_drawing(house, {}, done + done), False)
        values = {(): ("a", (("n", 0),))}
        self.assertIs(lets_drawing(house, values, done), False)
        self.assertIs(lets_drawing(house, values, afresh(house, values)), True)

    def test_more_entries_than_are_handed_in(self):
        house = house_of("part a; each i 8; each j 8; draw b turn j; end; end; part b; each i 6; draw c -; end; part c")
        drawing = afresh(house, {})
        self.assertEqual(len(drawing), 449)
        self.assertIs(lets_drawing(house, {}, drawing), True)
        self.assertIs(lets_drawing(house, {}, drawing[:-1]), False)
        self.assertIs(lets_drawing(house, {}, drawing + drawing[-1:]), False)

    def test_what_is_handed_in_stays(self):
        things = [self.drawing, self.drawing[:3], [list(entry) for entry in self.drawing], [{"a": [1]}, []]]
        ahead, values = copy.deepcopy(things), copy.deepcopy(self.values)
        for thing in things:
            self.asks(thing)
            for place in range(len(self.drawing)):
                self.entry(place, thing)
                self.entry(place, thing[0])
        self.assertEqual(repr(things), repr(ahead))
        self.assertEqual(repr(self.values), repr(values))

    def test_nothing_is_kept_of_what_was_asked(self):
        self.none(self.drawing[:-1], [])
        self.let_by(self.drawing)
        thing = list(self.drawing)
        self.let_by(thing)
        thing.pop()
        self.none(thing)
        thing.append(self.drawing[-1])
        self.let_by(thing)


class TestLetsEntry(Lets):
    def test_each_entry_behind_those_ahead(self):
        for place, entry in enumerate(self.drawing):
            self.assertIs(self.entry(place, entry), True)

    def test_made_entries(self):
        for case in made_cases(120, 3):
            for values, drawing in zip(case.values[:2], case.drawings):
                for place, entry in enumerate(drawing):
                    for other in drawing:
                        told = lets_entry(case.house, values, drawing[:place], other)
                        self.assertIs(told, repr(other) == repr(entry))

    def test_behind_the_last_one_there_is_none(self):
        for thing in WRONG + tuple(self.drawing):
            self.assertIs(self.entry(len(self.drawing), thing), False, thing)
        done = [((), "foot", (), (), ((), (), ()))]
        self.assertIs(lets_entry((samples.FOOT,), {}, [], done[0]), True)
        self.assertIs(lets_entry((samples.FOOT,), {}, done, done[0]), False)

    def test_other_things(self):
        for place, entry in enumerate(self.drawing):
            self.no_entry(place, *WRONG)
            self.no_entry(place, list(entry), [entry], (entry,), {0: entry}, entry[:4], entry[1:], entry + ((),),
                          entry + (entry[4],), (entry[0],) + entry, dict(enumerate(entry)))

    def test_another_path(self):
        for place, entry in enumerate(self.drawing):
            path = entry[0]
            other = [path + (none(),), path[1:] if path else ((0, 0),), path + ((1, 0),), list(path), None, 0, ""]
            other += [swapped(path, at, spot) for at in range(len(path)) for spot in (
                (path[at][0], path[at][1] + 1), (7, path[at][1]), list(path[at]), path[at] + (0,), path[at][:1], None)]
            self.no_entry(place, *[self.turned(place, 0, thing) for thing in other])

    def test_another_name(self):
        for place, entry in enumerate(self.drawing):
            other = [part[0] for part in self.house if part[0] != entry[1]]
            other += [entry[1] + "s", entry[1][:-1], entry[1].upper(), "", None, 0]
            other += [(entry[1],), [entry[1]], {entry[1]: 1}]
            self.no_entry(place, *[self.turned(place, 1, name) for name in other])

    def test_other_gives_and_downs(self):
        for place, entry in enumerate(self.drawing):
            for at in (2, 3):
                pairs = entry[at]
                other = [pairs + (("z", 0),), (("a", 0),) + pairs, pairs + ((),), list(pairs), dict(pairs), None, 0, ""]
                other += [pairs[1:], swapped(pairs, 0, (pairs[0][0], pairs[0][1] + 1)), pairs + pairs,
                          swapped(pairs, 0, (pairs[0][0] + "s", pairs[0][1]))] if pairs else []
                self.no_entry(place, *[self.turned(place, at, thing) for thing in other])

    def test_more_gives_and_downs_turned_about(self):
        house = house_of("""
            part root
            give x 1 -
                give y 2 -
                    draw leaf -
                        with b 1
                        with a 2
                end
            end
            part leaf""")
        ahead, entry = afresh(house, {})
        self.assertIs(lets_entry(house, {}, [ahead], entry), True)
        self.assertEqual(entry[2:4], ((("a", 2), ("b", 1)), (("x", 1), ("y", 2))))
        for at in (2, 3):
            self.assertIs(lets_entry(house, {}, [ahead], swapped(entry, at, entry[at][::-1])), False)
        self.assertIs(lets_entry(house, {}, [ahead], entry[:2] + (entry[3], entry[2], entry[4])), False)

    def test_a_piece_of_other_answers(self):
        seen = 0
        for place, entry in enumerate(self.drawing):
            part = part_of(self.house, entry[1])
            answers = answers_by(self.house, self.values, *entry[:4])
            for question, number in entry[4][0]:
                for put in (number + 1, number - 1, 0, 8, None):
                    other = dict(answers)
                    other[question] = put
                    if put is None:
                        other.pop(question)
                    piece = drawn(part, other)
                    self.assertIs(lets_piece(part, piece), True)
                    if repr(piece) != repr(entry[4]):
                        self.no_entry(place, self.turned(place, 4, piece))
                        seen += 1
        self.assertGreater(seen, 40)

    def test_a_piece_of_other_answers_with_the_same_row(self):
        house = house_of("part root; box n 2; when box n; plain t -; end; else; end")
        row = (("plain", none(), "t", (), (), ()),)
        for number in (2, 1, -1, 3, BOUND):
            entry = ((), "root", (), (), (((("box", "n"), number),), row, ()))
            self.assertIs(lets_piece(house[0], entry[4]), True)
            self.assertIs(lets_entry(house, {}, [], entry), number == 2)
            self.assertIs(lets_drawing(house, {}, [entry]), number == 2)

    def test_reads_that_the_answers_have_not(self):
        house = house_of("part root; when add take a down b; else; plain t -; end; end")
        row = (("plain", none(), "t", (), (), ()),)
        for one, other in ((0, 0), (1, -1), (-3, 3)):
            entry = ((), "root", (), (), (((("down", "b"), one), (("take", "a"), other)), row, ()))
            self.assertIs(lets_piece(house[0], entry[4]), True)
            self.assertIs(lets_entry(house, {}, [], entry), one == 0)
            self.assertIs(lets_drawing(house, {}, [entry]), one == 0)

    def test_other_reads(self):
        for place, entry in enumerate(self.drawing):
            reads, row, works = entry[4]
            other = [(), reads + ((("box", "zz"), 0),), tuple(sorted(reads + ((("down", "zz"), 0),)))]
            for at, read in enumerate(reads):
                other += [reads[:at] + reads[at + 1:], reads[:at] + (read,) + reads[at:],
                          swapped(reads, at, (read[0], read[1] + 1)), swapped(reads, at, (read[0], read[1] - 1)),
                          reads[at:at + 1] + reads[:at] + reads[at + 1:] if at else reads[::-1]]
            self.no_entry(place, *[self.turned(place, 4, (thing, row, works)) for thing in other if thing != reads])

    def test_other_rows_and_works(self):
        for place, entry in enumerate(self.drawing):
            reads, row, works = entry[4]
            self.no_entry(place, *[self.turned(place, 4, piece) for piece in (
                (reads, (), works), (reads, row + row, works), (reads, row, works + (("w", 1),)), (reads, row),
                (reads, row, works, ()), [reads, row, works], None, (), ((), (), ()))])

    def test_the_piece_of_another_entry(self):
        for place, entry in enumerate(self.drawing):
            for other in self.drawing:
                if repr(other[4]) != repr(entry[4]):
                    self.no_entry(place, self.turned(place, 4, other[4]))

    def test_wrong_kinds_at_any_place(self):
        seen = {}
        for place, entry in enumerate(self.drawing):
            for name, change in (("list", as_list), ("truth", as_truth), ("text", as_text), ("none", as_none)):
                things = variants(entry, change)
                self.no_entry(place, *things)
                seen[name] = seen.get(name, 0) + len(things)
        self.assertTrue(all(count > 60 for count in seen.values()), seen)

    def test_an_entry_behind_is_looked_at_by_those_ahead(self):
        # The same entry, behind others that ask for it and behind such as don't.
        entry = self.drawing[3]
        for place in range(len(self.drawing)):
            self.assertIs(self.entry(place, entry), place == 3)


if __name__ == "__main__":
    unittest.main()
