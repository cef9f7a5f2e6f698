import unittest

from byexample.places import all_places, is_place, spot

PLACES = [
    ("small", 1, "ahead"), ("small", 1, "behind"), ("small", 2, "ahead"), ("small", 2, "behind"),
    ("small", -1, "ahead"), ("small", -1, "behind"), ("small", -2, "ahead"), ("small", -2, "behind"),
    ("great", 1, "ahead"), ("great", 1, "behind"), ("great", 2, "ahead"), ("great", 2, "behind"),
    ("great", -1, "ahead"), ("great", -1, "behind"), ("great", -2, "ahead"), ("great", -2, "behind"),
    ("figure", 1, "ahead"), ("figure", 1, "behind"), ("figure", 2, "ahead"), ("figure", 2, "behind"),
    ("figure", -1, "ahead"), ("figure", -1, "behind"), ("figure", -2, "ahead"), ("figure", -2, "behind"),
    ("mark", 1, "ahead"), ("mark", 1, "behind"), ("mark", 2, "ahead"), ("mark", 2, "behind"),
    ("mark", -1, "ahead"), ("mark", -1, "behind"), ("mark", -2, "ahead"), ("mark", -2, "behind"),
    ("any", 1, "ahead"), ("any", 1, "behind"), ("any", 2, "ahead"), ("any", 2, "behind"),
    ("any", -1, "ahead"), ("any", -1, "behind"), ("any", -2, "ahead"), ("any", -2, "behind"),
]

NONE = (None, None, None, None)

# For each text and each kind: how many signs stand ahead of the sign of nth 1, 2, -1 and -2.
SPOTS = {
    "": {"small": NONE, "great": NONE, "figure": NONE, "mark": NONE, "any": NONE},
    "a": {"small": (0, None, 0, None), "great": NONE, "figure": NONE, "mark": NONE, "any": (0, None, 0, None)},
    "B": {"small": NONE, "great": (0, None, 0, None), "figure": NONE, "mark": NONE, "any": (0, None, 0, None)},
    "7": {"small": NONE, "great": NONE, "figure": (0, None, 0, None), "mark": NONE, "any": (0, None, 0, None)},
    " ": {"small": NONE, "great": NONE, "figure": NONE, "mark": (0, None, 0, None), "any": (0, None, 0, None)},
    "aB": {
        "small": (0, None, 0, None), "great": (1, None, 1, None), "figure": NONE, "mark": NONE, "any": (0, 1, 1, 0),
    },
    "-7": {
        "small": NONE, "great": NONE, "figure": (1, None, 1, None), "mark": (0, None, 0, None), "any": (0, 1, 1, 0),
    },
    "aaa": {"small": (0, 1, 2, 1), "great": NONE, "figure": NONE, "mark": NONE, "any": (0, 1, 2, 1)},
    "xAyBC0zD1-2. ,": {
        "small": (0, 2, 6, 2), "great": (1, 3, 7, 4), "figure": (5, 8, 10, 8), "mark": (9, 11, 13, 12),
        "any": (0, 1, 13, 12),
    },
    "x-Y.Z/9": {
        "small": (0, None, 0, None), "great": (2, 4, 4, 2), "figure": (6, None, 6, None), "mark": (1, 3, 5, 3),
        "any": (0, 1, 6, 5),
    },
    "1,a2b/": {
        "small": (2, 4, 4, 2), "great": NONE, "figure": (0, 3, 3, 0), "mark": (1, 5, 5, 1), "any": (0, 1, 5, 4),
    },
    "Ada Byron, 1815": {
        "small": (1, 2, 8, 7), "great": (0, 4, 4, 0), "figure": (11, 12, 14, 13), "mark": (3, 9, 10, 9),
        "any": (0, 1, 14, 13),
    },
    "ab CD-12.ef,GH/34 ij KL5": {
        "small": (0, 1, 19, 18), "great": (3, 4, 22, 21), "figure": (6, 7, 23, 16), "mark": (2, 5, 20, 17),
        "any": (0, 1, 23, 22),
    },
    "999999999999999999999999": {
        "small": NONE, "great": NONE, "figure": (0, 1, 23, 22), "mark": NONE, "any": (0, 1, 23, 22),
    },
}


class EqualToAll:
    __hash__ = None

    def __eq__(self, other):
        return True


class AllPlacesTest(unittest.TestCase):
    def test_the_forty_places_in_their_order(self):
        told = all_places()
        self.assertIs(type(told), list)
        self.assertEqual(len(told), 40)
        self.assertEqual(told, PLACES)
        for place in told:
            self.assertIs(type(place), tuple)
            self.assertEqual([type(part) for part in place], [str, int, str])

    def test_who_asks_owns_the_list(self):
        kept = all_places()
        spoilt = all_places()
        spoilt.reverse()
        spoilt[0] = ("none", 0, "none")
        spoilt.append(None)
        self.assertEqual(all_places(), PLACES)
        spoilt.clear()
        self.assertEqual(all_places(), PLACES)
        self.assertEqual(kept, PLACES)


class IsPlaceTest(unittest.TestCase):
    def assert_none(self, things):
        for number, thing in enumerate(things):
            with self.subTest(number):
                self.assertIs(is_place(thing), False)

    def test_each_of_the_forty(self):
        for place in PLACES:
            with self.subTest(place):
                self.assertIs(is_place(place), True)
                self.assertIs(is_place(tuple(list(place))), True)

    def test_kinds_that_are_none(self):
        kinds = (
            "", "Small", "SMALL", "smal", "smalls", " small", "small ", "a", "all", "letter", "figures", "ahead",
            "small\n", 0, 1, True, None, 1.0, b"small", ("small",), ["small"], {"small": 1}, {"small"}, EqualToAll(),
        )
        self.assert_none([(kind, 1, "ahead") for kind in kinds])

    def test_numbers_that_are_none(self):
        nths = (
            0, 3, -3, 4, 24, 10 ** 30, -10 ** 30, 10 ** 5000, -10 ** 5000, 2 ** 64 + 1, True, False, None, 1.0, -1.0,
            2.0, "1", "-1", "", "first", (1,), [1], {1: 1}, {1}, EqualToAll(), float("nan"), float("inf"), 1 + 0j,
        )
        self.assert_none([("any", nth, "behind") for nth in nths])

    def test_edges_that_are_none(self):
        edges = (
            "", "Ahead", "AHEAD", "head", "aheads", " ahead", "behind ", "before", "any", "behind\n", 0, 1, True, None,
            1.0, b"ahead", ("ahead",), ["ahead"], {"ahead": 1}, {"ahead"}, EqualToAll(),
        )
        self.assert_none([("small", 1, edge) for edge in edges])

    def test_more_or_fewer_than_three(self):
        self.assert_none([
            (), ("any",), ("any", 1), (1, "ahead"), ("any", "ahead"), ("any", 1, "ahead", "ahead"),
            ("any", 1, "ahead", None), ("any", 1, 1, "ahead"), (("any", 1, "ahead"),),
            ("any", 1, "ahead", "any", 2, "ahead"),
        ])

    def test_another_order(self):
        self.assert_none([(1, "any", "ahead"), ("ahead", 1, "any"), ("any", "ahead", 1)])

    def test_things_of_other_kinds(self):
        self.assert_none([
            ["any", 1, "ahead"], {"any": 1}, {0: "any", 1: 1, 2: "ahead"}, {"any", 1, "ahead"}, "any 1 ahead", "abc",
            "any", "", 0, 1, 40, -1, 10 ** 5000, True, False, None, 1.5, b"any", [], {}, object(), tuple, len,
            EqualToAll(), [("any", 1, "ahead")],
        ])

    def test_what_is_handed_in_stays_as_it_is(self):
        within = ["any"]
        listed = ["any", 1, "ahead"]
        for again in range(2):
            self.assertIs(is_place((within, 1, "ahead")), False)
            self.assertIs(is_place(listed), False)
        self.assertEqual(within, ["any"])
        self.assertEqual(listed, ["any", 1, "ahead"])


class SpotTest(unittest.TestCase):
    def assert_spot(self, place, text, told):
        with self.subTest(place=place, text=text):
            for again in range(2):
                found = spot(place, text)
                self.assertEqual(found, told)
                self.assertIs(type(found), type(told))

    def test_each_place_in_each_text(self):
        for text, by_kind in SPOTS.items():
            self.assertLessEqual(len(text), 24)
            for kind, numbers in by_kind.items():
                for nth, number in zip((1, 2, -1, -2), numbers):
                    self.assert_spot((kind, nth, "ahead"), text, number)
                    self.assert_spot((kind, nth, "behind"), text, None if number is None else number + 1)

    def test_texts_of_some_signs_of_one_kind(self):
        counted = ((0, NONE), (1, (1, None, 1, None)), (2, (1, 3, 3, 1)), (3, (1, 3, 5, 3)), (4, (1, 3, 7, 5)))
        for kind, sign, other in (("small", "q", "Q"), ("great", "Q", "q"), ("figure", "0", "."), ("mark", "/", "0")):
            for many, numbers in counted:
                text = (other + sign) * many + other
                for nth, number in zip((1, 2, -1, -2), numbers):
                    self.assert_spot((kind, nth, "ahead"), text, number)
                    self.assert_spot((kind, nth, "behind"), text, None if number is None else number + 1)

    def test_every_sign_is_found_by_its_kind_alone(self):
        signs = {
            "small": "abcdefghijklmnopqrstuvwxyz", "great": "ABCDEFGHIJKLMNOPQRSTUVWXYZ", "figure": "0123456789",
            "mark": " -.,/",
        }
        for kind in signs:
            for sign in signs[kind]:
                for place_kind in ("small", "great", "figure", "mark", "any"):
                    told = 0 if place_kind in (kind, "any") else None
                    self.assert_spot((place_kind, 1, "ahead"), sign, told)


if __name__ == "__main__":
    unittest.main()
