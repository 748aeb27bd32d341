import copy
import unittest

from viewwood.reckonings import is_reckoning, reckoned

BOUND = 10 ** 9
NUM = ("num", 1)
ANSWERS = {("take", "a"): 5, ("box", "a"): -3, ("down", "a"): 11, ("box", "b"): 0, ("take", "ab"): BOUND}
TURNS = {"i": 2, "j": 0}


def num(number):
    return ("num", number)


def chain(count):
    """A sum of so many reckonings, an odd number, each within the one ahead."""
    made = NUM
    while size(made) < count:
        made = ("add", NUM, made)
    return made


def size(reckoning):
    """How many reckonings there are in all, the whole among them."""
    return 1 + sum(size(inner) for inner in reckoning[1:] if isinstance(inner, tuple))


class TestIsReckoning(unittest.TestCase):
    def let_by(self, *things):
        for thing in things:
            self.assertIs(is_reckoning(thing), True, thing)

    def none(self, *things):
        for thing in things:
            self.assertIs(is_reckoning(thing), False, thing)

    def test_each_word(self):
        self.let_by(
            ("num", 7), ("take", "a"), ("box", "count"), ("down", "abcdefgh"), ("turn", "i"),
            ("add", NUM, NUM), ("times", NUM, ("take", "a")), ("less", ("box", "b"), NUM),
            ("pick", NUM, ("down", "c"), ("turn", "d")),
        )

    def test_words_within_one_another(self):
        self.let_by(("pick", ("less", ("add", NUM, ("take", "a")), ("times", ("box", "b"), NUM)),
                     ("pick", NUM, NUM, ("turn", "i")), ("add", ("down", "c"), NUM)))

    def test_numbers_at_the_bounds_and_beyond(self):
        self.let_by(num(0), num(-1), num(BOUND), num(-BOUND))
        self.none(num(BOUND + 1), num(-BOUND - 1), num(10 ** 60 - 1), num(1 - 10 ** 60))

    def test_no_number_behind_num(self):
        self.none(*[num(thing) for thing in (True, False, "1", "a", "", None, (), (1,), [1], {}, NUM)])
        self.none(("add", NUM, num(True)), ("pick", num(False), NUM, NUM), ("less", num("1"), NUM))

    def test_no_name_behind_the_four(self):
        wrong = ("", "abcdefghi", "A", "a1", "a b", "a_b", " ", "-", 1, 0, True, None, (), ("a",), ["a"], {}, NUM)
        for word in ("take", "box", "down", "turn"):
            self.none(*[(word, thing) for thing in wrong])
            self.none(*[("add", (word, thing), NUM) for thing in wrong])

    def test_a_name_behind_num_and_a_reckoning_behind_the_four(self):
        self.none(("num", "a"), ("take", ("take", "a")), ("box", num(1)), ("turn", ("turn", "i")))

    def test_no_reckoning_within(self):
        wrong = (1, 0, True, None, "num", "a", "", (), [], {}, ["num", 1], ("num",), ("a", 1), {"num": 1}, ((NUM,),))
        for word in ("add", "times", "less"):
            self.none(*[(word, thing, NUM) for thing in wrong])
            self.none(*[(word, NUM, thing) for thing in wrong])
        for thing in wrong:
            self.none(("pick", thing, NUM, NUM), ("pick", NUM, thing, NUM), ("pick", NUM, NUM, thing))
            self.none(("add", NUM, ("pick", NUM, NUM, ("times", thing, NUM))))

    def test_one_thing_more_or_fewer(self):
        for word, behind in (("num", (1,)), ("take", ("a",)), ("box", ("a",)), ("down", ("a",)), ("turn", ("a",)),
                             ("add", (NUM, NUM)), ("times", (NUM, NUM)), ("less", (NUM, NUM)),
                             ("pick", (NUM, NUM, NUM))):
            self.let_by((word,) + behind)
            self.none((word,), (word,) + behind[1:], (word,) + behind + (behind[0],), (word,) + behind + (None,))
            self.none((word,) + behind + behind, behind, behind + (word,), (word, behind), ((word,) + behind,))

    def test_a_list_in_the_place_of_a_tuple(self):
        self.none(["num", 1], ["take", "a"], ["add", NUM, NUM], ["pick", NUM, NUM, NUM])
        self.none(("add", ["num", 1], NUM), ("add", NUM, ["num", 1]), ("add", [NUM, NUM]))
        self.none(("pick", NUM, NUM, list(NUM)))
        self.none(("less", NUM, ("times", NUM, ("add", ["take", "a"], NUM))))

    def test_a_word_that_is_none(self):
        for word in ("", "Num", "NUM", "nu", "numb", "num ", "sum", "sub", "set", "plain", "give", "when", "each",
                     "more", "a", "0", "eq", "minus", "not", "or", "and"):
            self.none((word, 1), (word, "a"), (word, NUM), (word, NUM, NUM), (word, NUM, NUM, NUM), (word,))
            self.none(("add", (word, 1), NUM), ("add", (word, "a"), NUM), ("add", NUM, (word, NUM, NUM)))

    def test_no_text_in_the_place_of_the_word(self):
        for word in ([], ["num"], {}, {"num": 1}, (), ("num",), ("add",), None, 0, 1, True, False, ([],), ({},)):
            self.none((word, 1), (word, "a"), (word, NUM, NUM), (word, NUM, NUM, NUM), (word,))
            self.none(("add", (word, 1), NUM), ("add", NUM, (word, NUM, NUM)))

    def test_no_tuple_at_all(self):
        self.none((), [], {}, None, True, False, 0, 1, "", "num", "num 1", "take a", {"num": 1}, {0: "num", 1: 1})
        self.none(((),), ((), ()), [()], [NUM])

    def test_twenty_in_all(self):
        made = (("pick", NUM, chain(17), NUM), ("pick", NUM, NUM, chain(17)), ("pick", chain(17), NUM, NUM),
                ("pick", chain(7), chain(5), chain(7)), ("add", ("pick", NUM, NUM, NUM), chain(15)))
        for reckoning in made:
            self.assertEqual(size(reckoning), 20)
        self.let_by(*made)
        self.let_by(chain(19), chain(17))

    def test_twenty_one_in_all(self):
        four = ("pick", NUM, NUM, NUM)
        made = (chain(21), ("add", chain(19), NUM), ("add", NUM, chain(19)), ("add", chain(9), chain(11)),
                ("less", chain(11), chain(9)), ("pick", four, chain(15), NUM), ("pick", chain(15), NUM, four))
        for reckoning in made:
            self.assertEqual(size(reckoning), 21)
        self.none(*made)

    def test_one_tuple_that_stands_there_again_counts_again(self):
        three = ("add", NUM, NUM)
        nine = ("add", ("add", three, NUM), three)
        self.let_by(("add", nine, nine), ("pick", nine, nine, NUM))
        self.none(("add", ("add", nine, nine), NUM), ("pick", nine, three, nine))

    def test_twenty_with_a_wrong_one_first_or_last(self):
        self.none(("pick", num(True), chain(17), NUM), ("pick", NUM, chain(17), num(True)))

    def test_many_more_than_twenty(self):
        broad = NUM
        for _ in range(6):
            broad = ("pick", broad, broad, broad)
        self.none(chain(23), chain(41), chain(99), ("add", chain(41), chain(41)), broad)

    def test_a_hundred_within_one_another(self):
        for wrap in (lambda thing: (thing,), lambda thing: [thing], lambda thing: ("add", NUM, thing),
                     lambda thing: ("add", thing, NUM), lambda thing: ("num", thing), lambda thing: (thing, 1)):
            deep = NUM
            for _ in range(100):
                deep = wrap(deep)
            self.none(deep)

    def test_what_is_handed_in_stays(self):
        thing = ("add", ["num", 1], {"a": [NUM]})
        kept = repr(thing)
        is_reckoning(thing)
        self.assertEqual(repr(thing), kept)


class TestReckoned(unittest.TestCase):
    def tells(self, reckoning, number, *reads, answers=ANSWERS, turns=TURNS):
        # By repr: True is no 1, a list no tuple.
        self.assertEqual(repr(reckoned(reckoning, answers, turns)), repr((number, reads)))

    def test_num(self):
        for number in (0, 7, -7, BOUND, -BOUND):
            self.tells(num(number), number)

    def test_the_three_that_ask(self):
        self.tells(("take", "a"), 5, (("take", "a"), 5))
        self.tells(("box", "a"), -3, (("box", "a"), -3))
        self.tells(("down", "a"), 11, (("down", "a"), 11))
        self.tells(("box", "b"), 0, (("box", "b"), 0))

    def test_what_stands_not_there_is_0_and_read_all_the_same(self):
        for sort in ("take", "box", "down"):
            self.tells((sort, "z"), 0, ((sort, "z"), 0))
            self.tells((sort, "a"), 0, ((sort, "a"), 0), answers={})
            self.tells(("add", (sort, "z"), num(4)), 4, ((sort, "z"), 0))

    def test_the_sorts_are_asked_apart(self):
        self.tells(("take", "a"), 0, (("take", "a"), 0), answers={("box", "a"): 1, ("down", "a"): 2})
        self.tells(("box", "a"), 0, (("box", "a"), 0), answers={("take", "a"): 1, ("down", "a"): 2})
        self.tells(("down", "a"), 0, (("down", "a"), 0), answers={("take", "a"): 1, ("box", "a"): 2})

    def test_a_turn_is_no_read(self):
        self.tells(("turn", "i"), 2)
        self.tells(("turn", "j"), 0)
        self.tells(("add", ("turn", "i"), ("times", ("turn", "i"), ("turn", "j"))), 2)

    def test_turns_and_answers_are_apart(self):
        self.tells(("turn", "i"), 3, answers={("turn", "i"): 9, ("take", "i"): 8}, turns={"i": 3})
        self.tells(("take", "i"), 0, (("take", "i"), 0), answers={}, turns={"i": 3, ("take", "i"): 4})

    def test_add(self):
        self.tells(("add", num(2), num(3)), 5)
        self.tells(("add", num(2), num(-3)), -1)
        self.tells(("add", ("take", "a"), ("box", "a")), 2, (("box", "a"), -3), (("take", "a"), 5))

    def test_times(self):
        self.tells(("times", num(2), num(3)), 6)
        self.tells(("times", num(2), num(-3)), -6)
        self.tells(("times", num(-2), num(-3)), 6)
        self.tells(("times", num(0), ("take", "a")), 0, (("take", "a"), 5))
        self.tells(("times", ("down", "z"), ("take", "a")), 0, (("down", "z"), 0), (("take", "a"), 5))

    def test_less(self):
        self.tells(("less", num(2), num(3)), 1)
        self.tells(("less", num(3), num(3)), 0)
        self.tells(("less", num(4), num(3)), 0)
        self.tells(("less", num(-4), num(-3)), 1)
        self.tells(("less", num(-BOUND), num(BOUND)), 1)
        self.tells(("less", ("take", "a"), ("box", "a")), 0, (("box", "a"), -3), (("take", "a"), 5))

    def test_sums_and_products_are_cut(self):
        self.tells(("add", num(BOUND), num(0)), BOUND)
        self.tells(("add", num(BOUND - 1), num(1)), BOUND)
        self.tells(("add", num(BOUND), num(1)), BOUND)
        self.tells(("add", num(BOUND), num(BOUND)), BOUND)
        self.tells(("add", num(-BOUND), num(-1)), -BOUND)
        self.tells(("add", num(-BOUND), num(-BOUND)), -BOUND)
        self.tells(("times", num(BOUND), num(1)), BOUND)
        self.tells(("times", num(40000), num(40000)), BOUND)
        self.tells(("times", num(BOUND), num(-BOUND)), -BOUND)
        self.tells(("times", num(-BOUND), num(-BOUND)), BOUND)
        self.tells(("times", num(-1), num(-BOUND)), BOUND)

    def test_each_is_cut_within_others_too(self):
        self.tells(("add", ("add", num(BOUND), num(1)), num(-1)), BOUND - 1)
        self.tells(("add", num(1), ("add", num(-BOUND), num(-1))), 1 - BOUND)
        self.tells(("add", ("times", num(BOUND), num(BOUND)), num(-BOUND)), 0)
        self.tells(("times", ("add", num(-BOUND), num(-BOUND)), num(-1)), BOUND)
        self.tells(("less", num(BOUND), ("add", num(BOUND), num(1))), 0)
        self.tells(("less", ("times", num(BOUND), num(-2)), num(-BOUND)), 0)
        self.tells(("pick", num(1), ("add", num(BOUND), num(1)), num(0)), BOUND)
        self.tells(("add", ("take", "ab"), ("take", "a")), BOUND, (("take", "a"), 5), (("take", "ab"), BOUND))

    def test_pick_takes_the_second_where_not_0_else_the_third(self):
        for number in (1, 2, -1, BOUND, -BOUND):
            self.tells(("pick", num(number), num(8), num(9)), 8)
        self.tells(("pick", num(0), num(8), num(9)), 9)
        self.tells(("pick", ("less", num(1), num(2)), num(8), num(9)), 8)
        self.tells(("pick", ("less", num(2), num(1)), num(8), num(9)), 9)

    def test_pick_asks_only_what_it_takes(self):
        picked = ("pick", ("box", "a"), ("take", "a"), ("down", "a"))
        self.tells(picked, 5, (("box", "a"), -3), (("take", "a"), 5))
        picked = ("pick", ("box", "b"), ("take", "a"), ("down", "a"))
        self.tells(picked, 11, (("box", "b"), 0), (("down", "a"), 11))
        picked = ("pick", ("box", "z"), ("take", "a"), ("down", "z"))
        self.tells(picked, 0, (("box", "z"), 0), (("down", "z"), 0))

    def test_pick_reckons_only_what_it_takes(self):
        # No such turn is there: to reckon it would fail.
        self.tells(("pick", num(1), num(8), ("turn", "none")), 8)
        self.tells(("pick", num(0), ("add", num(1), ("turn", "none")), num(9)), 9)

    def test_picks_within_picks(self):
        inner = ("pick", ("turn", "j"), ("take", "x"), ("take", "y"))
        self.tells(("pick", inner, ("box", "x"), ("add", ("box", "y"), inner)), 0,
                   (("box", "y"), 0), (("take", "y"), 0))
        self.tells(("pick", num(5), inner, ("box", "x")), 0, (("take", "y"), 0))

    def test_what_is_passed_over_may_be_asked_elsewhere(self):
        self.tells(("add", ("pick", num(0), ("take", "a"), num(1)), ("take", "a")), 6, (("take", "a"), 5))

    def test_reads_are_sorted_and_each_stands_once(self):
        asked = (("take", "b"), ("take", "a"), ("down", "z"), ("box", "b"), ("take", "ab"),
                 ("box", "a"), ("down", "a"), ("take", "a"), ("box", "b"))
        reckoning = num(0)
        for question in asked:
            reckoning = ("add", question, reckoning)
        self.tells(
            reckoning, BOUND,
            (("box", "a"), -3), (("box", "b"), 0), (("down", "a"), 11), (("down", "z"), 0),
            (("take", "a"), 5), (("take", "ab"), BOUND), (("take", "b"), 0))

    def test_reads_are_sorted_by_names_not_by_numbers(self):
        answers = {("take", "b"): -9, ("take", "a"): 9, ("box", "c"): 20}
        self.tells(("add", ("take", "b"), ("add", ("take", "a"), ("box", "c"))), 20,
                   (("box", "c"), 20), (("take", "a"), 9), (("take", "b"), -9), answers=answers)

    def test_asked_of_both_sides(self):
        for word, number in (("add", 16), ("times", 55), ("less", 1)):
            self.tells((word, ("take", "a"), ("down", "a")), number, (("down", "a"), 11), (("take", "a"), 5))

    def test_twenty_within_one_another(self):
        reckoning = ("turn", "i")
        for _ in range(9):
            reckoning = ("add", ("take", "a"), reckoning)
        self.tells(reckoning, 47, (("take", "a"), 5))

    def test_more_than_twenty_are_reckoned_all_the_same(self):
        reckoning = num(0)
        for _ in range(40):
            reckoning = ("add", num(1), reckoning)
        self.tells(reckoning, 40)

    def test_what_is_handed_in_stays_and_it_is_told_alike_again(self):
        answers, turns = dict(ANSWERS), dict(TURNS)
        reckoning = ("pick", ("take", "z"), ("box", "a"), ("add", ("turn", "i"), ("down", "y")))
        kept = copy.deepcopy((answers, turns, reckoning))
        first = reckoned(reckoning, answers, turns)
        self.assertEqual(repr((answers, turns, reckoning)), repr(kept))
        self.assertEqual(repr(reckoned(reckoning, answers, turns)), repr(first))

    def test_what_was_told_stays_when_the_answers_change(self):
        answers = {("take", "a"): 5}
        told = reckoned(("take", "a"), answers, {})
        answers[("take", "a")] = 6
        self.assertEqual(repr(told), repr((5, ((("take", "a"), 5),))))
        self.tells(("take", "a"), 6, (("take", "a"), 6), answers=answers)


if __name__ == "__main__":
    unittest.main()
