import copy
import unittest

import samples
from building import house_of, none
from making import made_cases
from otherway import boxes_by, tree_by
from viewwood.drawings import afresh
from viewwood.errors import NoBox, ViewError
from viewwood.trees import box_at, tree_of

# Parts within parts, gives within plains within gives, parts that draw nothing, hands at each depth.
YARD = house_of("""
    part yard
    box n 2
    plain top -
        set w box n
        set a -3
        hand tap 1 last
            change n add box n
    end
    give far 4 6
        draw wing 1
            with k 5
        plain mid box n
            hand tap 2 on
            hand key 3 last
                change n set 0
                change n times 2
            give near 5 -
                draw wing 1
                    with k 7
                draw bare -
            end
            plain leaf -
            end
        end
    end
    draw bare -
    draw wing 6
    part wing
    box m 1
    draw tip take k
    plain bar -
        hand tap 1 on
            change m add take k
        plain rod 3
            hand drag 2 last
                change m set down far
            draw tip -
        end
    end
    part bare
    box z 0
    give far 1 -
    end
    part tip
    box t 8
    plain end -
        set f down far
        hand key 1 last
            change t times -2
    end""")
MID = (none(), (1, 0))


def tip(path, far):
    return ("end", (("f", far),), (("key", 1, True, path, (("t", "times", -2),)),), ())


def wing(path, at, k, far):
    """The pairs of a wing at a path; at are the spots of the labels ahead of its own."""
    rod = ("rod", (), (("drag", 2, True, path, (("m", "set", far),)),), (
        ((none(), none()), tip(path + (none(), (3, 0), none()), far)),))
    return ((at + ((k, 0), none()), tip(path + ((k, 0),), far)),
            (at + (none(),), ("bar", (), (("tap", 1, False, path, (("m", "add", k),)),), ((((3, 0),), rod),))))


MID_BOX = ("mid", (), (("tap", 2, False, (), ()), ("key", 3, True, (), (("n", "set", 0), ("n", "times", 2)))),
           wing(((6, 0), (2, 0), none(), (1, 0)), MID, 7, 4) + (((none(1),), ("leaf", (), (), ())),))
YARD_TREE = (
    ((none(),), ("top", (("a", -3), ("w", 2)), (("tap", 1, True, (), (("n", "add", 2),)),), ())),
    ) + wing(((6, 0), (1, 0)), ((6, 0), (1, 0)), 5, 4) + (
    (((6, 0), (2, 0)), MID_BOX),
    ) + wing(((6, 1),), ((6, 1),), 0, 0)


class Same(unittest.TestCase):
    def same(self, told, right):
        self.assertEqual(repr(told), repr(right))

    def tree(self, text, values=None):
        return tree_of(afresh(house_of(text), values or {}))


class TestTreeOf(Same):
    def test_nothing(self):
        self.same(tree_of(afresh((samples.FOOT,), {})), ())
        self.same(self.tree("part a; draw b -; give x 1 -; draw b -; end; part b; give y 2 -; end"), ())

    def test_plain_wants_of_the_root(self):
        text = "part a; plain one -; end; plain two -; set y 2; set x -1; end; plain one 7; end; plain t -4; end"
        self.same(self.tree(text), (
            ((none(0),), ("one", (), (), ())), ((none(1),), ("two", (("x", -1), ("y", 2)), (), ())),
            (((7, 0),), ("one", (), (), ())), (((-4, 0),), ("t", (), (), ()))))

    def test_plain_wants_within_one_another(self):
        text = "part a;" + "plain t 1;" * 6 + "end;" * 6
        right = ()
        for place in range(6):
            right = ((((1, 0),), ("t", (), (), right)),)
        self.same(self.tree(text), right)

    def test_through_a_give(self):
        text = "part a; give x 3 5; plain t 1; end; give y 3 -; plain u -; end; end; end; plain t 5; end"
        self.same(self.tree(text), (
            (((5, 0), (1, 0)), ("t", (), (), ())), (((5, 0), none(), none()), ("u", (), (), ())),
            (((5, 1),), ("t", (), (), ()))))

    def test_through_a_part(self):
        self.same(self.tree("part a; draw b 5; plain t -; draw b -; end; part b; plain u 1; end; plain v 1; end"), (
            (((5, 0), (1, 0)), ("u", (), (), ())), (((5, 0), (1, 1)), ("v", (), (), ())),
            ((none(),), ("t", (), (), (((none(), (1, 0)), ("u", (), (), ())), ((none(), (1, 1)), ("v", (), (), ())))))))

    def test_through_parts_and_gives_several_deep(self):
        text = ("part a; give x 1 1; draw b 2; end; part b; draw c 3; "
                "part c; give x 2 4; give y 2 5; plain t 6; plain u 7; end; end; end; end")
        self.same(self.tree(text), ((tuple((place, 0) for place in range(1, 7)), ("t", (), (), (
            (((7, 0),), ("u", (), (), ())),))),))

    def test_labels_begin_anew_within_a_plain_thing(self):
        text = ("part a; give x 1 1; plain t 2; give x 1 3; plain u 4; draw b 5; end; end; end; end; "
                "part b; plain v 6; end")
        self.same(self.tree(text), ((((1, 0), (2, 0)), ("t", (), (), ((((3, 0), (4, 0)), ("u", (), (), (
            (((5, 0), (6, 0)), ("v", (), (), ())),))),))),))

    def test_the_yard(self):
        self.same(tree_of(afresh(YARD, {})), YARD_TREE)

    def test_hands_have_the_path_of_their_entry(self):
        text = ("part a; plain t -; draw b 1; end; "
                "part b; box n 0; give x 1 2; plain u -; hand tap 2 on; change n add 1; end; end")
        told = self.tree(text)
        self.same(told[0][1][3], ((((1, 0), (2, 0), none()), ("u", (), (
            ("tap", 2, False, (none(), (1, 0)), (("n", "add", 1),)),), ())),))

    def test_hands_around_and_within_a_part(self):
        text = ("part a; box n 0; plain t 1; hand tap 1 on; change n set 1; draw b 2; "
                "plain u 3; hand tap 3 on; end; end; "
                "part b; box n 0; plain t 1; hand tap 2 last; change n set 2; end")
        told = self.tree(text)
        self.same(told[0][1][2], (("tap", 1, False, (), (("n", "set", 1),)),))
        self.same([pair[1][2] for pair in told[0][1][3]], [
            (("tap", 2, True, ((1, 0), (2, 0)), (("n", "set", 2),)),), (("tap", 3, False, (), ()),)])

    def test_parts_that_draw_nothing(self):
        text = "part a; plain t 1; end; draw b 1; plain u 1; draw b -; plain v -; end; end; part b"
        self.same(self.tree(text), ((((1, 0),), ("t", (), (), ())), (((1, 2),), ("u", (), (), (
            ((none(1),), ("v", (), (), ())),)))))

    def test_keys_that_turn(self):
        text = "part a; box k 3; draw b box k; with j box k; plain t 3; end; part b; plain u take j; end"
        self.same(self.tree(text), ((((3, 0), (3, 0)), ("u", (), (), ())), (((3, 1),), ("t", (), (), ()))))
        self.same(self.tree(text, {(): ("a", (("k", -1),))}),
                  ((((-1, 0), (-1, 0)), ("u", (), (), ())), (((3, 0),), ("t", (), (), ()))))

    def test_values_turn_the_tree(self):
        values = {(): ("yard", (("n", 6),)), ((6, 0), (1, 0)): ("wing", (("m", 9),)), ((6, 2),): ("wing", (("m", 9),))}
        told = tree_of(afresh(YARD, values))
        self.same([label for label, box in told],
                  [(none(),), ((6, 0), (1, 0), (5, 0), none()), ((6, 0), (1, 0), none()), ((6, 0), (6, 0)),
                   ((6, 1), (0, 0), none()), ((6, 1), none())])
        self.same(told[0][1][1], (("a", -3), ("w", 6)))

    def test_one_part_at_one_spot_of_unlike_rows(self):
        # Both tips stand at (0, 0) of their rows, but at unlike paths.
        text = ("part a; plain t 1; draw b 0; with n 5; end; plain t 2; draw b 0; with n 6; end; "
                "part b; plain u take n; end")
        self.same([box[3][0][0] for label, box in self.tree(text)], [((0, 0), (5, 0)), ((0, 0), (6, 0))])

    def test_made_drawings(self):
        seen, deep = 0, 0
        for case in made_cases(500, 1):
            for drawing in case.drawings:
                told = tree_of(drawing)
                self.same(told, tree_by(drawing))
                addresses = [address for address, box in boxes_by(told)]
                self.same(len(set(addresses)), len(addresses))
                seen += len(addresses)
                deep = max([deep] + [len(address) for address in addresses])
        self.assertGreater(seen, 3000)
        self.assertGreater(deep, 4)

    def test_a_hundred_and_more_boxes(self):
        text = "part a; each i 8; draw b turn i; end; part b; each i 8; plain t -; plain u turn i; end; end; end"
        told = self.tree(text)
        self.same(len(list(boxes_by(told))), 128)
        self.same(told[63], (((7, 0), none(7)), ("t", (), (), ((((7, 0),), ("u", (), (), ())),))))

    def test_what_is_handed_in_stays(self):
        drawing = afresh(YARD, {})
        ahead = copy.deepcopy(drawing)
        told = tree_of(drawing)
        self.same(drawing, ahead)
        drawing.clear()
        self.same(told, YARD_TREE)
        self.same(tree_of(ahead), YARD_TREE)

    def test_two_drawings_in_turn(self):
        one, other = afresh(YARD, {}), afresh(samples.HOUSE, {})
        for turn in range(2):
            self.same(tree_of(one), YARD_TREE)
            self.same(tree_of(other), tree_by(other))


class TestBoxAt(Same):
    def refused(self, tree, address):
        with self.assertRaises(NoBox) as caught:
            box_at(tree, address)
        self.same(caught.exception.address, address)
        self.assertIsInstance(caught.exception, ViewError)

    def test_every_box(self):
        for drawing in (afresh(YARD, {}), afresh(samples.HOUSE, {})):
            tree = tree_of(drawing)
            for address, box in boxes_by(tree):
                self.same(box_at(tree, address), box)

    def test_by_hand(self):
        self.same(box_at(YARD_TREE, ((none(),),)), YARD_TREE[0][1])
        self.same(box_at(YARD_TREE, (((6, 0), (2, 0)),)), MID_BOX)
        self.same(box_at(YARD_TREE, (((6, 0), (2, 0)), (none(1),))), ("leaf", (), (), ()))
        self.same(box_at(YARD_TREE, (((6, 0), (2, 0)), MID + (none(),), ((3, 0),), (none(), none()))),
                  tip(((6, 0), (2, 0), none(), (1, 0), none(), (3, 0), none()), 4))

    def test_no_labels(self):
        self.refused(YARD_TREE, ())
        self.refused((), ())

    def test_a_tree_without_boxes(self):
        self.refused((), ((none(),),))
        self.refused((), ((none(),), ((1, 0),)))

    def test_a_label_that_is_not_there(self):
        for label in (((6, 0),), (none(2),), ((2, 0),), ((2, 0), (6, 0)), ((6, 0), (2, 0), none()), ((0, 0),),
                      ((6, 0), (2, 1)), ((-6, 0), (2, 0)), (none(), none())):
            self.refused(YARD_TREE, (label,))
            self.refused(YARD_TREE, (label, (none(1),)))
            self.refused(YARD_TREE, (((6, 0), (2, 0)), label))
            self.refused(YARD_TREE, (((6, 0), (2, 0)), label, (none(),)))
            self.refused(YARD_TREE, (((6, 0), (2, 0)), MID + (none(),), label))

    def test_each_address_with_another_label_or_one_more(self):
        tree = tree_of(afresh(YARD, {}))
        there = [address for address, box in boxes_by(tree)]
        seen = 0
        for address in there:
            others = [address + (((50, 0),),), address + address[-1:], (((50, 0),),) + address]
            for place in range(len(address)):
                others.append(address[:place] + (((50, 0),),) + address[place + 1:])
                others.append(address[:place] + (address[place] + (none(),),) + address[place + 1:])
                others.append(address[:place] + address[place + 1:])
            for other in others:
                if other not in there:
                    self.refused(tree, other)
                    seen += 1
        self.assertGreater(seen, 60)

    def test_a_label_of_another_row(self):
        tree = ((((1, 0),), ("a", (), (), ((((2, 0),), ("b", (), (), ())),))), (((3, 0),), ("c", (), (), ())))
        self.same(box_at(tree, (((1, 0),), ((2, 0),))), ("b", (), (), ()))
        for address in ((((2, 0),),), (((3, 0),), ((2, 0),)), (((2, 0),), ((1, 0),)), (((1, 0),), ((3, 0),)),
                        (((1, 0),), ((1, 0),)), (((1, 0),), ((2, 0),), ((2, 0),))):
            self.refused(tree, address)

    def test_made_trees(self):
        for case in made_cases(150, 2):
            tree = tree_of(case.drawings[-1])
            for address, box in boxes_by(tree):
                self.same(box_at(tree, address), box)
                self.refused(tree, address + (((40, 0),),))
                self.refused(tree, address[:-1] + (((40, 0),),))

    def test_twenty_deep(self):
        tree = ()
        for place in range(20):
            tree = ((((place, 0),), ("t", (), (), tree)),)
        address = tuple(((place, 0),) for place in range(19, -1, -1))
        self.same(box_at(tree, address), ("t", (), (), ()))
        self.refused(tree, address + (((0, 0),),))


if __name__ == "__main__":
    unittest.main()
