import copy
import unittest

import samples
from building import house_of, none, want, want_give, want_part
from making import made_cases
from otherway import parts_by
from samples import BOUND
from viewwood.drawings import afresh
from viewwood.pieces import drawn
from viewwood.walking import next_part, parts_in


def entry(path, name, row, gives=(), downs=()):
    """An entry whose piece has just this row."""
    return (path, name, gives, downs, ((), row, ()))


class Same(unittest.TestCase):
    def same(self, told, right):
        self.assertEqual(repr(told), repr(right))


class TestPartsIn(Same):
    def test_rows_without_parts(self):
        for row in ((), (want(none()),), (want_give(none()),), (want(none(), row=(want_give((3, 0)),)), want(none(1)))):
            self.same(parts_in(row), [])

    def test_one_part(self):
        self.same(parts_in((want_part(none()),)), [((none(),), "q", (), ())])
        self.same(parts_in((want_part((-4, 2), "item", (("a", 3), ("n", -BOUND))),)),
                  [(((-4, 2),), "item", (("a", 3), ("n", -BOUND)), ())])

    def test_several_in_order(self):
        row = (want_part((5, 0), "z"), want_part(none(), "b"), want_part((5, 1), "a"), want_part((0, 0), "b"))
        self.same(parts_in(row), [(((5, 0),), "z", (), ()), ((none(),), "b", (), ()), (((5, 1),), "a", (), ()),
                                  (((0, 0),), "b", (), ())])

    def test_those_within_plains_and_gives_in_their_place(self):
        row = (want_part(none(0), "a"), want(none(1), row=(want_part(none(0), "b"), want_part(none(1), "c"))),
               want_part(none(2), "d"), want_give(none(3), "g", 7, (want_part(none(0), "e"), want_part(none(1), "f"))),
               want(none(4)), want_part(none(5), "h"))
        self.same([part[1] for part in parts_in(row)], ["a", "b", "c", "d", "e", "f", "h"])
        self.same([part[0] for part in parts_in(row)],
                  [(none(0),), (none(1), none(0)), (none(1), none(1)), (none(2),), (none(3), none(0)),
                   (none(3), none(1)), (none(5),)])
        self.same([part[3] for part in parts_in(row)], [(), (), (), (), (("g", 7),), (("g", 7),), ()])

    def test_spots_from_outside_in(self):
        row = (want((1, 0), row=(want_give((2, 5), row=(want((None, 3), row=(want_part((-4, 1)),)),)),)),)
        self.same(parts_in(row), [(((1, 0), (2, 5), (None, 3), (-4, 1)), "q", (), (("g", 1),))])

    def test_three_rows_deep_in_each_way(self):
        part = want_part((3, 0), "q", (("x", 1),))
        for outer in (want((1, 0), row=()), want_give((1, 0), "o", 5)):
            for inner in (want((2, 0), row=()), want_give((2, 0), "i", 6)):
                row = (outer[:-1] + ((inner[:-1] + ((part,),),),),)
                downs = [("i", 6)] if inner[0] == "give" else []
                downs += [("o", 5)] if outer[0] == "give" else []
                self.same(parts_in(row), [(((1, 0), (2, 0), (3, 0)), "q", (("x", 1),), tuple(downs))])

    def test_many_deep(self):
        row = (want_part((20, 0)),)
        for place in range(19, -1, -1):
            row = (want_give((place, 0), "abc"[place % 3], place, row) if place % 2 else want((place, 0), row=row),)
        self.same(parts_in(row), [(tuple((place, 0) for place in range(21)), "q", (),
                                   (("a", 15), ("b", 19), ("c", 17)))])


class TestDownsInARow(Same):
    def downs(self, row):
        return [part[3] for part in parts_in(row)]

    def test_sorted_by_name(self):
        inner = (want_part(none()),)
        for names in (("a", "b", "c"), ("c", "b", "a"), ("b", "c", "a"), ("a", "aa", "b"), ("z", "az", "b")):
            row = inner
            for number, name in enumerate(names):
                row = (want_give(none(), name, -number, row),)
            self.same(self.downs(row), [tuple(sorted(zip(names, (0, -1, -2))))])

    def test_of_one_name_the_inmost(self):
        for outer, inner in ((1, 2), (2, 1), (0, -5), (-5, 0), (BOUND, -BOUND), (3, 3), (4, 0)):
            row = (want_give(none(), "g", outer, (want_give(none(), "g", inner, (want_part(none()),)),)),)
            self.same(self.downs(row), [(("g", inner),)])
            row = (want_give(none(), "g", outer, (want_give(none(), "f", 9, (want(none(), row=(
                want_give(none(), "g", inner, (want_part(none()),)),)),)),)),)
            self.same(self.downs(row), [(("f", 9), ("g", inner))])

    def test_of_three_of_one_name_the_inmost(self):
        row = (want_part(none()),)
        for number in (3, 2, 1):
            row = (want_give(none(), "g", number, row), want_part(none(1)))
        self.same(self.downs(row), [(("g", 3),), (("g", 2),), (("g", 1),), ()])

    def test_a_give_is_for_those_within_it_alone(self):
        row = (want_part(none()), want_give(none(1), "g", 1), want_part(none(2)),
               want_give(none(3), "g", 2, (want_part(none()),)), want_part(none(4)),
               want(none(5), row=(want_give(none(), "h", 3), want_part(none(1)))))
        self.same(self.downs(row), [(), (), (("g", 2),), (), ()])

    def test_behind_an_inner_give_the_outer_one_holds_again(self):
        row = (want_give(none(), "g", 1, (
            want_part(none()), want_give(none(1), "g", 2, (want_part(none()),)), want_part(none(2)),
            want_give(none(3), "h", 3, (want_part(none()),)), want(none(4), row=(want_part(none()),)))),)
        self.same(self.downs(row), [(("g", 1),), (("g", 2),), (("g", 1),), (("g", 1), ("h", 3)), (("g", 1),)])

    def test_gives_of_a_part_are_no_downs(self):
        row = (want_give(none(), "g", 1, (want_part(none(), "q", (("a", 5), ("g", 6))),)),)
        self.same(parts_in(row), [((none(), none()), "q", (("a", 5), ("g", 6)), (("g", 1),))])

    def test_numbers_of_nought(self):
        self.same(self.downs((want_give(none(), "g", 0, (want_part(none()),)),)), [(("g", 0),)])


class TestPartsInAtAll(Same):
    def test_made_rows(self):
        seen = 0
        for case in made_cases(400, 1):
            for drawing in case.drawings:
                for one in drawing:
                    self.same(parts_in(one[4][1]), parts_by(one[4][1]))
                    seen += len(parts_by(one[4][1]))
        self.assertGreater(seen, 1000)

    def test_great_made_rows(self):
        for start in range(60):
            maker = samples.Maker(start)
            for whole in maker.house():
                row = drawn(whole, maker.answers())[1]
                self.same(parts_in(row), parts_by(row))

    def test_told_lists_are_the_askers_own(self):
        row = (want_give(none(), "g", 4, (want_part(none()), want_part(none(1)))), want_part((2, 0), "p"))
        right = [((none(), none()), "q", (), (("g", 4),)), ((none(), none(1)), "q", (), (("g", 4),)),
                 (((2, 0),), "p", (), ())]
        told = parts_in(row)
        kept = parts_in(row)
        self.same(told, right)
        told.pop(0)
        told[0] = None
        told.append(3)
        self.same(parts_in(row), right)
        told.clear()
        self.same(parts_in(row), right)
        self.same(kept, right)
        parts_in((want_part(none(7)),))
        self.same(kept, right)

    def test_no_list_is_kept_for_rows_without_parts(self):
        parts_in(()).append(1)
        parts_in((want(none()),)).append(2)
        self.same(parts_in(()), [])
        self.same(parts_in((want(none()),)), [])


# Parts within parts, several in one row, gives that hide like names from farther out, gives of several rows.
NEST = house_of("""
    part root
    draw mid 1
        with a 5
    give theme 3 -
        plain pane -
            draw mid -
            give loud 8 4
                give theme 4 -
                    draw leaf 2
                end
                draw leaf 2
            end
        end
    end
    draw leaf -
    part mid
    give theme 9 -
        draw leaf 7
            with n take a
    end
    plain bar -
        draw leaf -
            with n down theme
    end
    part leaf
    plain dot take n
    end""")
PANE = (none(), none())
NEST_ORDER = [
    ((), "root", (), ()),
    (((1, 0),), "mid", (("a", 5),), ()),
    (((1, 0), none(), (7, 0)), "leaf", (("n", 5),), (("theme", 9),)),
    (((1, 0), none(1), none()), "leaf", (("n", 0),), ()),
    (PANE + (none(),), "mid", (), (("theme", 3),)),
    (PANE + (none(), none(), (7, 0)), "leaf", (("n", 0),), (("theme", 9),)),
    (PANE + (none(), none(1), none()), "leaf", (("n", 3),), (("theme", 3),)),
    (PANE + ((4, 0), none(), (2, 0)), "leaf", (), (("loud", 8), ("theme", 4))),
    (PANE + ((4, 0), (2, 0)), "leaf", (), (("loud", 8), ("theme", 3))),
    ((none(1),), "leaf", (), ())]


class TestNextPart(Same):
    def test_of_no_entries_the_root(self):
        for house in (NEST, samples.HOUSE, NEST[1:], NEST[2:], (samples.FOOT,)):
            self.same(next_part(house, []), ((), house[0][0], (), ()))

    def test_behind_each_entry(self):
        drawing = afresh(NEST, {})
        self.same(len(drawing), len(NEST_ORDER))
        for count, due in enumerate(NEST_ORDER):
            self.same(next_part(NEST, drawing[:count]), due)
        self.same(next_part(NEST, drawing), None)

    def test_a_root_that_asks_for_none(self):
        self.same(next_part((samples.FOOT,), [entry((), "foot", ())]), None)
        self.same(next_part(NEST, [entry((), "root", (want(none(), row=(want_give(none()),)),))]), None)

    def test_what_is_asked_for_is_what_the_rows_want(self):
        # The pieces are not such as these parts draw: it is the rows alone that ask.
        done = [entry((), "root", (want_part((1, 0), "leaf"), want_part((1, 1), "mid", (("b", 2),))))]
        self.same(next_part(NEST, done), (((1, 0),), "leaf", (), ()))
        done.append(entry(((1, 0),), "leaf", ()))
        self.same(next_part(NEST, done), (((1, 1),), "mid", (("b", 2),), ()))
        done.append(entry(((1, 1),), "mid", (want((6, 0), row=(want_part((6, 0), "leaf"),)),), (("b", 2),)))
        self.same(next_part(NEST, done), (((1, 1), (6, 0), (6, 0)), "leaf", (), ()))
        done.append(entry(((1, 1), (6, 0), (6, 0)), "leaf", ()))
        self.same(next_part(NEST, done), None)

    def test_what_is_within_goes_ahead_of_what_stands_behind(self):
        done = [entry((), "root", (want_part(none(0), "mid"), want_part(none(1), "leaf")))]
        done.append(entry((none(0),), "mid", (want_part(none(0), "leaf"), want_part(none(1), "leaf"))))
        order = []
        while next_part(NEST, done) is not None:
            due = next_part(NEST, done)
            order.append(due[0])
            done.append(due + (((), (), ()),))
        self.same(order, [(none(0), none(0)), (none(0), none(1)), (none(1),)])

    def test_downs_go_on_to_all_within(self):
        inner = want_give(none(), "d", 2, (want_part(none(), "mid"),))
        done = [entry((), "root", (want_give(none(), "b", 1, (inner,)),))]
        downs = (("b", 1), ("d", 2))
        self.same(next_part(NEST, done)[3], downs)
        path = next_part(NEST, done)[0]
        for row, right in (
                ((want_part(none(), "leaf"),), downs),
                ((want_give(none(), "a", 3, (want_part(none(), "leaf"),)),), (("a", 3), ("b", 1), ("d", 2))),
                ((want_give(none(), "c", 3, (want_part(none(), "leaf"),)),), (("b", 1), ("c", 3), ("d", 2))),
                ((want_give(none(), "e", 3, (want_part(none(), "leaf"),)),), (("b", 1), ("d", 2), ("e", 3))),
                ((want_give(none(), "b", 0, (want_part(none(), "leaf"),)),), (("b", 0), ("d", 2))),
                ((want_give(none(), "d", 1, (want_part(none(), "leaf"),)),), (("b", 1), ("d", 1))),
                ((want_give(none(), "d", 3, (want_part(none(), "leaf"),)),), (("b", 1), ("d", 3)))):
            self.same(next_part(NEST, done + [entry(path, "mid", row, (), downs)])[3], right)

    def test_gives_go_on_to_nobody(self):
        done = [entry((), "root", (want_part(none(), "mid", (("a", 1),)),)),
                entry((none(),), "mid", (want_part(none(), "leaf", (("b", 2),)),), (("a", 1),))]
        self.same(next_part(NEST, done), ((none(), none()), "leaf", (("b", 2),), ()))

    def test_the_list_handed_in_stays(self):
        drawing = afresh(NEST, {})
        for count in range(len(drawing) + 1):
            done = drawing[:count]
            ahead = copy.deepcopy(done)
            told = next_part(NEST, done)
            self.same(done, ahead)
            self.same(next_part(NEST, done), told)

    def test_the_list_may_be_changed_behind(self):
        done = afresh(NEST, {})[:4]
        told = next_part(NEST, done)
        done.clear()
        self.same(told, NEST_ORDER[4])
        self.same(next_part(NEST, done), NEST_ORDER[0])

    def test_made_drawings_cut_at_every_place(self):
        seen = 0
        for case in made_cases(300, 3):
            for drawing in case.drawings[:2]:
                for count, one in enumerate(drawing):
                    self.same(next_part(case.house, drawing[:count]), one[:4])
                    seen += 1
                self.same(next_part(case.house, drawing), None)
        self.assertGreater(seen, 500)

    def test_a_long_drawing(self):
        house = house_of("""
            part root
            each i 8
                each j 8
                    draw mid turn i
                end
            end
            part mid
            each i 4
                draw leaf turn i
            end
            part leaf""")
        drawing = afresh(house, {})
        self.same(len(drawing), 1 + 64 * 5)
        for count in (0, 1, 2, 6, 7, 320):
            self.same(next_part(house, drawing[:count]), drawing[count][:4])
        self.same(next_part(house, drawing), None)


if __name__ == "__main__":
    unittest.main()
