import copy
import unittest

from viewwood.plain import alike, cut, is_name, is_number

BOUND = 10 ** 9
NO_WHOLE_NUMBERS = (True, False, None, "", "1", "a", (), (1,), [], [1], {}, {1: 1})

# No two of these are alike.
UNLIKE = (
    0, 1, -1, 2, BOUND, BOUND + 1, 10 ** 60 - 1, -(10 ** 60 - 1),
    True, False, None, "", "0", "1", "a", "A", "True", "None", "ab", "ba",
    (), [], {}, (None,), [None], {None: None},
    (1,), (True,), [1], [True], ("1",), (0,), (False,), [0], [False],
    (1, 2), (2, 1), [1, 2], [2, 1], (1, 2, 3), (1, 1, 2), (1, 2, 2), (1, 2, None), [1, 2, 3],
    ((1, 2),), ([1, 2],), [(1, 2)], [[1, 2]], ((1,), (2,)), ((1, 2), ()), ((), (1, 2)), (((1,), 2),),
    ((True, 2),), ((1, (2, (False,))),), ((1, (2, (0,))),), ((1, (2, [0])),),
    {1: 1}, {True: 1}, {1: True}, {True: True}, {0: 1}, {False: 1}, {1: 0}, {1: False}, {"1": 1},
    {(1,): 1}, {(True,): 1}, {(1,): True}, {((1, 0), 2): 1}, {((1, False), 2): 1},
    {1: (1,)}, {1: [1]}, {1: {1: 1}}, {1: {1: True}}, {1: {True: 1}},
    {"a": 1}, {"a": 2}, {"b": 1}, {"a": None}, {"b": None}, {None: "a"},
    {"a": 1, "b": 2}, {"a": 2, "b": 1}, {"a": 1, "b": None}, {"a": 1, "c": 2}, {"a": 1, "b": 2, "c": 3},
    [{"a": 1}], ({"a": 1},), [{"a": [1, {"b": (True,)}]}], [{"a": [1, {"b": (1,)}]}],
)


def within(thing, wrap, depth):
    for _ in range(depth):
        thing = wrap(thing)
    return thing


WRAPS = (
    lambda thing: (thing,),
    lambda thing: [thing],
    lambda thing: {"a": thing},
    lambda thing: (0, thing, "z"),
    lambda thing: {1: thing, 2: (thing,)[0:0]},
)


class TestIsNumber(unittest.TestCase):
    def test_within_the_bounds(self):
        for number in (0, 1, -1, 7, -42, BOUND - 1, 1 - BOUND, BOUND, -BOUND):
            self.assertIs(is_number(number), True, number)

    def test_beyond_the_bounds(self):
        for number in (BOUND + 1, BOUND + 2, 2 * BOUND, 10 ** 10, 10 ** 18, 10 ** 59, 10 ** 60 - 1):
            self.assertIs(is_number(number), False, number)
            self.assertIs(is_number(-number), False, -number)

    def test_other_kinds(self):
        for thing in NO_WHOLE_NUMBERS:
            self.assertIs(is_number(thing), False, thing)


class TestCut(unittest.TestCase):
    def test_within_the_bounds_it_stays(self):
        for number in (0, 1, -1, 7, -42, BOUND - 1, 1 - BOUND, BOUND, -BOUND):
            self.assertEqual(repr(cut(number)), repr(number))

    def test_beyond_the_bounds_it_is_the_bound(self):
        for number in (BOUND + 1, BOUND + 2, 2 * BOUND, 10 ** 10, 10 ** 18, 10 ** 59, 10 ** 60 - 1):
            self.assertEqual(repr(cut(number)), repr(BOUND))
            self.assertEqual(repr(cut(-number)), repr(-BOUND))

    def test_what_was_cut_is_a_number_and_stays(self):
        for number in (10 ** 60 - 1, 1 - 10 ** 60, 5):
            self.assertIs(is_number(cut(number)), True)
            self.assertEqual(cut(cut(number)), cut(number))


class TestIsName(unittest.TestCase):
    def test_one_to_eight_small_letters(self):
        for name in ("a", "z", "m", "ab", "row", "abcdefgh", "stuvwxyz", "zzzzzzzz", "ijklmnop", "qr"):
            self.assertIs(is_name(name), True, name)

    def test_each_small_letter(self):
        for letter in "abcdefghijklmnopqrstuvwxyz":
            self.assertIs(is_name(letter), True, letter)

    def test_too_short_or_too_long(self):
        for text in ("", "abcdefghi", "a" * 9, "a" * 10, "a" * 400):
            self.assertIs(is_name(text), False, text)

    def test_every_other_sign_alone_first_amid_and_last(self):
        for code in range(ord(" "), ord("~") + 1):
            sign = chr(code)
            if "a" <= sign <= "z":
                continue
            for text in (sign, sign + "bc", "a" + sign + "c", "ab" + sign, "abcdefg" + sign):
                self.assertIs(is_name(text), False, text)

    def test_signs_of_other_alphabets_and_row_ends(self):
        for text in ("\n", "abc\n", "\nabc", "a\tb", "\u00e4", "ma\u00df", "\u03b1", "\u00aa", "a\u0131"):
            self.assertIs(is_name(text), False, text)

    def test_no_texts(self):
        things = (0, 1, True, False, None, (), ("a",), ("a", "b"), [], ["a"], {}, {"a": 1}, {"a": "b"}, [["a"]])
        for thing in things:
            self.assertIs(is_name(thing), False, thing)


class TestAlike(unittest.TestCase):
    def test_alike_to_itself_and_its_copy(self):
        for thing in UNLIKE:
            self.assertIs(alike(thing, thing), True, thing)
            self.assertIs(alike(thing, copy.deepcopy(thing)), True, thing)

    def test_no_two_of_the_unlike_ones(self):
        for place, one in enumerate(UNLIKE):
            for other in UNLIKE[:place] + UNLIKE[place + 1:]:
                self.assertIs(alike(one, other), False, (one, other))

    def test_no_two_of_them_deep_within(self):
        for wrap in WRAPS:
            for place, one in enumerate(UNLIKE):
                for other in UNLIKE[place + 1:]:
                    self.assertIs(alike(within(one, wrap, 3), within(other, wrap, 3)), False, (one, other))
                    self.assertIs(alike(within(other, wrap, 3), within(one, wrap, 3)), False, (one, other))

    def test_truths_are_no_numbers(self):
        for one, other in ((True, 1), (False, 0), ((True,), (1,)), ([0], [False]), ({True: 0}, {1: 0})):
            self.assertIs(alike(one, other), False)
            self.assertIs(alike(other, one), False)

    def test_dicts_in_any_order(self):
        one = {"a": 1, 2: [3], (4, None): {"b": 5, "c": ()}, None: True}
        other = {None: True, (4, None): {"c": (), "b": 5}, 2: [3], "a": 1}
        self.assertIs(alike(one, other), True)
        self.assertIs(alike(other, one), True)

    def test_dicts_with_one_key_of_another_kind_among_many(self):
        one = {("box", "a"): 1, ("take", "b"): 2, 1: 3, 0: 4}
        other = {("box", "a"): 1, ("take", "b"): 2, True: 3, 0: 4}
        self.assertIs(alike(one, other), False)
        self.assertIs(alike(other, one), False)

    def test_dict_with_one_more(self):
        one = {"a": 1, "b": 2}
        other = {"a": 1, "b": 2, "c": None}
        self.assertIs(alike(one, other), False)
        self.assertIs(alike(other, one), False)

    def test_one_more_one_fewer_two_turned_about(self):
        row = [((1, 0), "a"), ((None, 0), "b"), ((None, 1), "c")]
        more = row + [((None, 2), "d")]
        turned = [row[1], row[0], row[2]]
        for kind in (list, tuple):
            self.assertIs(alike(kind(row), kind(list(row))), True)
            for other in (more, row[:2], row[1:], turned):
                self.assertIs(alike(kind(row), kind(other)), False)
                self.assertIs(alike(kind(other), kind(row)), False)

    def test_only_the_first_the_middle_or_the_last_unlike(self):
        for place in range(5):
            row = [1, 1, 1, 1, 1]
            row[place] = True
            self.assertIs(alike([1, 1, 1, 1, 1], row), False)
            self.assertIs(alike(tuple(row), (1, 1, 1, 1, 1)), False)

    def test_a_hundred_within_one_another(self):
        for wrap in WRAPS:
            for depth in (99, 100, 110):
                deep = within(1, wrap, depth)
                self.assertIs(alike(deep, deep), True)
                self.assertIs(alike(deep, within(1, wrap, depth)), True)
                for other in (True, 2, "1", (1,), [1], None):
                    self.assertIs(alike(deep, within(other, wrap, depth)), False)
                    self.assertIs(alike(within(other, wrap, depth), deep), False)
                self.assertIs(alike(deep, within(1, wrap, depth - 1)), False)

    def test_keys_a_hundred_within_one_another(self):
        deep = {within(1, WRAPS[0], 99): 0}
        self.assertIs(alike(deep, {within(1, WRAPS[0], 99): 0}), True)
        self.assertIs(alike(deep, {within(True, WRAPS[0], 99): 0}), False)
        self.assertIs(alike(deep, {within(1, WRAPS[0], 98): 0}), False)

    def test_many_within_one(self):
        wide = [(number, {number: str(number)}) for number in range(3000)]
        self.assertIs(alike(wide, copy.deepcopy(wide)), True)
        other = copy.deepcopy(wide)
        other[1500][1][1500] = "1501"
        self.assertIs(alike(wide, other), False)

    def test_numbers_of_sixty_figures(self):
        great = 10 ** 60 - 1
        self.assertIs(alike(great, 10 ** 60 - 1), True)
        self.assertIs(alike(great, great - 1), False)
        self.assertIs(alike(great, -great), False)

    def test_what_is_handed_in_stays(self):
        one = {"a": [1, {"b": (2, [3])}], "c": {}}
        other = {"c": {}, "a": [1, {"b": (2, [3])}]}
        kept = (repr(one), repr(other))
        alike(one, other)
        alike(one, [other])
        self.assertEqual((repr(one), repr(other)), kept)


if __name__ == "__main__":
    unittest.main()
