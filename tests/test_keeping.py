import copy
import unittest

import samples
from building import house_of, none
from making import made_cases
from otherway import anew_by, drawing_by
from viewwood.drawings import afresh
from viewwood.keeping import redrawn

# The root's boxes turn one thing each: what is given and taken, what is handed down, how many items there are, which
# part stands at (8, 0), which tag is around the lamp, which part is above the lamp at (9, 0).
HALL = house_of("""
    part hall
    box count 2
    box tone 1
    box shade 1
    box form 0
    give shade box shade -
        plain list -
            each i box count
                draw item turn i
                    with tone box tone
                    with at turn i
            end
        end
    end
    when box form
        plain dark 7
            draw lamp -
        end
        draw lamp 8
        draw arch 9
    else
        plain light 7
            draw lamp -
        end
        draw item 8
        draw gate 9
    end
    part item
    box on 0
    box odd 5
    plain row -
        set t take tone
        hand tap 1 last
            change on add 1
        when box on
            draw lamp -
        else
        end
    end
    part gate
    draw lamp 4
    part arch
    plain stone 3
    end
    draw lamp 4
    part lamp
    box lit 0
    box oil 9
    work glow box lit
    plain bulb -
        set s down shade
    end""")
LIST = (none(), none())
ITEMS = [LIST + ((place, 0),) for place in range(4)]
INNER = ((7, 0), none())
AT_EIGHT = ((8, 0),)
AT_NINE = ((9, 0),)
UNDER_NINE = ((9, 0), (4, 0))
FIRST = [(), ITEMS[0], ITEMS[1], INNER, AT_EIGHT, AT_NINE, UNDER_NINE]


def hall(count=2, tone=1, shade=1, form=0):
    return ("hall", (("count", count), ("tone", tone), ("shade", shade), ("form", form)))


def item(on=0, odd=5):
    return ("item", (("on", on), ("odd", odd)))


def lamp(lit=0, oil=9):
    return ("lamp", (("lit", lit), ("oil", oil)))


class Same(unittest.TestCase):
    def same(self, told, right):
        self.assertEqual(repr(told), repr(right))


class TestRedrawn(Same):
    def turn(self, ahead, values, anew, house=HALL):
        """From the drawing of the values ahead to that of these: the drawing is that afresh, anew just these paths."""
        old = drawing_by(house, ahead)
        kept = copy.deepcopy((ahead, values, old))
        told = redrawn(house, values, old)
        self.assertIsInstance(told, tuple)
        self.same(told, (drawing_by(house, values), anew))
        self.same((ahead, values, old), kept)
        return told[0]

    def test_the_same_values(self):
        self.same([entry[0] for entry in afresh(HALL, {})], FIRST)
        for values in ({}, {(): hall(3, 4, 5, 1)}, {ITEMS[0]: item(1), INNER: lamp(3)}, {((5, 5),): lamp(1)}):
            self.turn(values, values, [])
            self.turn(values, dict(reversed(list(values.items()))), [])

    def test_first_numbers_told_or_not(self):
        told = {(): hall(), ITEMS[0]: item(), INNER: lamp(), AT_EIGHT: item(), UNDER_NINE: lamp()}
        self.turn({}, told, [])
        self.turn(told, {}, [])

    def test_a_box_that_is_read(self):
        self.turn({}, {INNER: lamp(1)}, [INNER])
        self.turn({INNER: lamp(1)}, {}, [INNER])
        self.turn({INNER: lamp(1)}, {INNER: lamp(2)}, [INNER])
        self.turn({}, {UNDER_NINE: lamp(-1)}, [UNDER_NINE])

    def test_a_box_that_is_not_read(self):
        self.turn({}, {INNER: lamp(0, 4), ITEMS[0]: item(0, -5), AT_EIGHT: item(0, 0)}, [])

    def test_a_box_of_one_part_of_several_of_its_name(self):
        self.turn({}, {ITEMS[0]: item(1)}, [ITEMS[0], ITEMS[0] + (none(), none())])
        self.turn({ITEMS[0]: item(1)}, {ITEMS[0]: item(2)}, [ITEMS[0]])
        self.turn({ITEMS[0]: item(1)}, {ITEMS[0]: item(0)}, [ITEMS[0]])

    def test_several_boxes(self):
        self.turn({}, {AT_EIGHT: item(0, 3), UNDER_NINE: lamp(1), ITEMS[1]: item(2), INNER: lamp(5, 5)},
                  [ITEMS[1], ITEMS[1] + (none(), none()), INNER, UNDER_NINE])

    def test_all_boxes(self):
        values = {(): hall(2, 3, 4, 0), ITEMS[0]: item(1, 1), ITEMS[1]: item(2, 2), INNER: lamp(3, 3),
                  AT_EIGHT: item(4, 4), UNDER_NINE: lamp(5, 5)}
        anew = [entry[0] for entry in drawing_by(HALL, values) if entry[0] != AT_NINE]
        self.turn({}, values, anew)

    def test_a_give_that_turns_and_is_read(self):
        self.turn({}, {(): hall(tone=2)}, [(), ITEMS[0], ITEMS[1]])

    def test_a_give_that_turns_and_is_not_read(self):
        house = house_of("part r; box a 1; draw q -; with x box a; part q; box b 1; plain t box b; end")
        told = self.turn({}, {(): ("r", (("a", 2),))}, [()], house)
        self.same(told[1][:4], ((none(),), "q", (("x", 2),), ()))

    def test_a_down_that_turns_and_is_read(self):
        ahead = {ITEMS[0]: item(1)}
        self.turn(ahead, {(): hall(shade=2), ITEMS[0]: item(1)}, [(), ITEMS[0] + (none(), none())])

    def test_a_down_that_turns_and_is_not_read(self):
        told = self.turn({}, {(): hall(shade=2)}, [()])
        self.same(told[1][3], (("shade", 2),))
        self.same(told[3][3], ())

    def test_downs_that_come_and_go_unread(self):
        house = house_of("part r; box a 0; when box a; give x 1 -; draw q 1; end; else; plain x -; draw q 1; end; end; "
                         "part q; box b 1; plain t box b; end")
        told = self.turn({}, {(): ("r", (("a", 1),))}, [()], house)
        self.same(told[1][:4], ((none(), (1, 0)), "q", (), (("x", 1),)))
        self.turn({(): ("r", (("a", 1),))}, {}, [()], house)

    def test_what_was_nought_for_lack_of_it_and_is_nought_now(self):
        house = house_of("part r; box a 0; box n 0; when box a; give x box n 5; draw q 1; with y box n; end; else; "
                         "plain x 5; draw q 1; end; end; part q; plain t add down x take y; end")
        path = ((5, 0), (1, 0))
        told = self.turn({}, {(): ("r", (("a", 1), ("n", 0)))}, [()], house)
        self.same(told[1][2:4], ((("y", 0),), (("x", 0),)))
        self.turn({}, {(): ("r", (("a", 1), ("n", 3)))}, [(), path], house)
        self.turn({(): ("r", (("a", 1), ("n", 3)))}, {}, [(), path], house)

    def test_a_path_whose_part_has_another_name_now(self):
        self.turn({}, {(): hall(form=1)}, [(), AT_EIGHT, AT_NINE])
        self.turn({(): hall(form=1)}, {}, [(), AT_EIGHT, AT_NINE])

    def test_another_name_with_like_reads(self):
        # The piece of the one would be answered alike, but it is another part that stands there.
        house = house_of("part r; box a 0; when box a; draw p 1; else; draw q 1; end; "
                         "part p; box n 1; plain one box n; end; part q; box n 1; plain two box n; end")
        for number in (0, 1):
            self.turn({(): ("r", (("a", number),))}, {(): ("r", (("a", 1 - number),))}, [(), ((1, 0),)], house)

    def test_the_plain_thing_around_has_another_tag(self):
        ahead = {INNER: lamp(6)}
        told = self.turn(ahead, {(): hall(form=1), INNER: lamp(6)}, [(), AT_EIGHT, AT_NINE])
        self.same([entry[:4] for entry in told if entry[0] == INNER], [(INNER, "lamp", (), ())])
        self.turn(ahead, {(): hall(form=1), INNER: lamp(7)}, [(), INNER, AT_EIGHT, AT_NINE])

    def test_the_part_above_has_another_name(self):
        ahead = {UNDER_NINE: lamp(6)}
        told = self.turn(ahead, {(): hall(form=1), UNDER_NINE: lamp(6)}, [(), AT_EIGHT, AT_NINE])
        self.same([entry[1] for entry in told if entry[0] in (AT_NINE, UNDER_NINE)], ["arch", "lamp"])
        self.turn(ahead, {(): hall(form=1), UNDER_NINE: lamp(7)}, [(), AT_EIGHT, AT_NINE, UNDER_NINE])

    def test_a_plain_thing_around_becomes_a_give(self):
        house = house_of("part r; box a 0; when box a; give x 1 3; draw q 1; end; else; plain t 3; draw q 1; end; end; "
                         "part q; box b 1; plain t box b; end")
        self.turn({}, {(): ("r", (("a", 1),))}, [()], house)

    def test_a_part_at_another_path_is_drawn_anew(self):
        house = house_of("part r; box a 0; draw q box a; part q; box b 1; plain t box b; end")
        self.turn({}, {(): ("r", (("a", 1),))}, [(), ((1, 0),)], house)
        house = house_of("part r; box a 0; when box a; plain t -; end; else; end; draw q -; part q; plain t -; end")
        self.turn({}, {(): ("r", (("a", 1),))}, [(), (none(1),)], house)
        self.turn({(): ("r", (("a", 1),))}, {}, [(), (none(),)], house)

    def test_parts_that_come_and_go(self):
        self.turn({}, {(): hall(count=4)}, [(), ITEMS[2], ITEMS[3]])
        self.turn({(): hall(count=4)}, {}, [()])
        self.turn({}, {(): hall(count=0)}, [()])
        self.turn({(): hall(count=0)}, {}, [(), ITEMS[0], ITEMS[1]])
        self.turn({(): hall(count=1), ITEMS[0]: item(3)}, {(): hall(count=2), ITEMS[1]: item(3)},
                  [(), ITEMS[0], ITEMS[1], ITEMS[1] + (none(), none())])

    def test_from_none_all_is_drawn(self):
        self.same(redrawn(HALL, {}, []), (afresh(HALL, {}), FIRST))

    def test_one_part(self):
        house = house_of("part r; box a 0; box b 0; plain t box a; end")
        self.turn({}, {(): ("r", (("a", 0), ("b", 4)))}, [], house)
        self.turn({}, {(): ("r", (("a", 1), ("b", 0)))}, [()], house)
        self.turn({(): ("r", (("a", 1), ("b", 0)))}, {}, [()], house)
        self.turn({}, {}, [], (samples.FOOT,))

    def test_each_read_is_looked_at(self):
        house = house_of("part r; box a 0; box b 0; box c 0; plain t add box a add box b box c; end")
        for numbers in ((1, 0, 0), (0, 1, 0), (0, 0, 1), (1, -1, 0)):
            self.turn({}, {(): ("r", tuple(zip("abc", numbers)))}, [()], house)


class TestMade(Same):
    def test_from_each_to_each(self):
        seen, some = 0, 0
        for case in made_cases(500, 3):
            for old in case.drawings:
                for values, right in zip(case.values, case.drawings):
                    anew = anew_by(case.house, values, old, right)
                    self.same(redrawn(case.house, values, old), (right, anew))
                    seen += 1
                    some += 0 < len(anew) < len(right)
        self.assertGreater(seen, 1500)
        self.assertGreater(some, 600)

    def test_along_a_row_of_values(self):
        for case in made_cases(300, 3):
            drawing = afresh(case.house, {})
            for values, right in zip(case.values, case.drawings):
                drawing = redrawn(case.house, values, drawing)[0]
                self.same(drawing, right)

    def test_who_is_not_anew_read_nothing_that_is_otherwise(self):
        for case in made_cases(200, 3):
            for old, values in zip(case.drawings, case.values[1:]):
                drawing, anew = redrawn(case.house, values, old)
                for entry in drawing:
                    if entry[0] not in anew:
                        self.assertIn(entry[:2] + (repr(entry[4]),), [one[:2] + (repr(one[4]),) for one in old])


class TestOwn(Same):
    def test_told_lists_are_the_askers_own(self):
        old = afresh(HALL, {})
        values = {(): hall(3, 2, 2, 1)}
        right = copy.deepcopy(redrawn(HALL, values, old))
        kept = redrawn(HALL, values, old)
        told = redrawn(HALL, values, old)
        for thing in told:
            thing.pop(0)
            thing.append(None)
        self.same(redrawn(HALL, values, old), right)
        for thing in told:
            thing.clear()
        self.same(redrawn(HALL, values, old), right)
        redrawn(HALL, {}, right[0])
        self.same(kept, right)

    def test_nothing_anew_is_a_new_list(self):
        old = afresh(HALL, {})
        right = copy.deepcopy(old)
        drawing, anew = redrawn(HALL, {}, old)
        self.assertIsNot(drawing, old)
        drawing.clear()
        anew.append(())
        self.same(old, right)
        self.same(redrawn(HALL, {}, old), (right, []))

    def test_what_is_handed_in_may_be_changed_behind(self):
        old = afresh(HALL, {})
        values = {(): hall(3)}
        told = redrawn(HALL, values, old)
        right = copy.deepcopy(told)
        old.clear()
        values.clear()
        self.same(told, right)

    def test_two_houses_in_turn(self):
        other = house_of("part hall; box count 1; draw item -; part item; box n 2; plain one box n; end")
        first, second = afresh(HALL, {}), afresh(other, {})
        for turn in range(2):
            self.same(redrawn(HALL, {}, first), (first, []))
            self.same(redrawn(other, {}, second), (second, []))


if __name__ == "__main__":
    unittest.main()
