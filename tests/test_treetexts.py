import unittest

import samples
from building import house_of, none
from making import made_cases
from otherway import boxes_by, text_by
from samples import BOUND
from viewwood.drawings import afresh
from viewwood.trees import tree_of
from viewwood.treetexts import shown_tree


def box(tag="t", sets=(), hands=(), row=()):
    return (tag, sets, hands, row)


def hand(event, rank=1, last=True, path=(), changes=()):
    return (event, rank, last, path, changes)


class TestShownTree(unittest.TestCase):
    def shown(self, tree, texts):
        self.assertEqual(shown_tree(tree), texts)

    def test_no_boxes(self):
        self.shown((), [])
        self.shown(tree_of(afresh((samples.FOOT,), {})), [])

    def test_one_box(self):
        self.shown((((none(),), box()),), ["0 -#0 t"])
        self.shown((((none(3),), box("abcdefgh")),), ["0 -#3 abcdefgh"])

    def test_the_one_of_the_document(self):
        row = box("row", (("a", 3), ("b", -2)), (hand("tap"),))
        self.shown((((none(),), box("list", row=(((none(), (7, 1)), row),))),),
                   ["0 -#0 list", "1 -#0/7#1 row a=3 b=-2 @tap"])

    def test_keys(self):
        for key, word in ((None, "-"), (0, "0"), (-1, "-1"), (1, "1"), (BOUND, "1000000000"), (-BOUND, "-1000000000")):
            self.shown(((((key, 0),), box()),), ["0 %s#0 t" % word])
            self.shown(((((key, 12), (key, 0)), box()),), ["0 %s#12/%s#0 t" % (word, word)])

    def test_labels_of_several_spots(self):
        self.shown(((((1, 0), (None, 1), (-2, 10)), box()),), ["0 1#0/-#1/-2#10 t"])

    def test_sets(self):
        self.shown((((none(),), box(sets=(("a", 0), ("b", BOUND), ("cc", -BOUND)))),),
                   ["0 -#0 t a=0 b=1000000000 cc=-1000000000"])

    def test_hands(self):
        hands = (hand("tap", 2, False, ((1, 0),), (("n", "set", 4), ("m", "add", 5))), hand("key", 3), hand("drag"))
        self.shown((((none(),), box(hands=hands)),), ["0 -#0 t @tap @key @drag"])

    def test_sets_ahead_of_hands(self):
        self.shown((((none(),), box("z", (("a", 1),), (hand("a"),))),), ["0 -#0 z a=1 @a"])

    def test_outer_ahead_of_inner_in_order(self):
        tree = (((none(),), box("a", row=((((1, 0),), box("b", row=(((none(),), box("c")),))), (((2, 0),), box("d"))))),
                ((none(1),), box("e", row=(((none(),), box("f")),))), ((none(2),), box("g")))
        self.shown(tree, ["0 -#0 a", "1 1#0 b", "2 -#0 c", "1 2#0 d", "0 -#1 e", "1 -#0 f", "0 -#2 g"])

    def test_in_the_rows_order_not_by_labels(self):
        self.shown(((((5, 0),), box("z")), (((1, 0),), box("a")), (((5, 1),), box("m"))),
                   ["0 5#0 z", "0 1#0 a", "0 5#1 m"])

    def test_twenty_deep(self):
        tree = ()
        for place in range(20):
            tree = ((((place, 0),), box(row=tree)),)
        self.shown(tree, ["%d %d#0 t" % (place, 19 - place) for place in range(20)])

    def test_a_house(self):
        house = house_of("""
            part root
            box n 2
            plain list -
                set n box n
                hand tap 1 last
                each i box n
                    draw item turn i
                end
            end
            give x 1 -5
                draw item -
            end
            part item
            plain row -
                hand tap 1 on
                hand key 1 on
            end""")
        self.shown(tree_of(afresh(house, {})),
                   ["0 -#0 list n=2 @tap", "1 0#0/-#0 row @tap @key", "1 1#0/-#0 row @tap @key",
                    "0 -5#0/-#0/-#0 row @tap @key"])

    def test_made_trees(self):
        seen = 0
        for case in made_cases(400, 1):
            for drawing in case.drawings:
                tree = tree_of(drawing)
                right = [text_by(address, inner) for address, inner in boxes_by(tree)]
                self.shown(tree, right)
                seen += len(right)
        self.assertGreater(seen, 2000)

    def test_told_lists_are_the_askers_own(self):
        tree = (((none(),), box(row=(((none(),), box("u")),))),)
        told, kept = shown_tree(tree), shown_tree(tree)
        told.pop()
        told[0] = ""
        self.shown(tree, ["0 -#0 t", "1 -#0 u"])
        told.clear()
        shown_tree(()).append("x")
        self.shown((), [])
        self.shown(tree, ["0 -#0 t", "1 -#0 u"])
        self.assertEqual(kept, ["0 -#0 t", "1 -#0 u"])


if __name__ == "__main__":
    unittest.main()
