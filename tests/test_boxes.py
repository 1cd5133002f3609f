"""withincall/boxes.py: points 26 and 27 of the document."""

import inspect
import itertools

from tests.common import NEVER_NUMBERS, SAME, Case
from withincall.boxes import Box
from withincall.errors import InvalidBox, NotFound
from withincall.nets import Pipeline

NO_COUNTERS = (-1, 1000, 10 ** 5000, True, False, None, "1", "", 1.0, (1,), [1], b"1")
NO_ROWS = (None, True, 0, 3, "123", b"123", [1, 2, 3], {0: 1}, range(3), (), (0,) * 41, (0,) * 42, (None,) * 41)


class BoxCase(Case):

    def bad_box(self, position, call, *args, **named):
        self.fails(InvalidBox, {"position": position}, call, *args, **named)


class TestDocumentExample(BoxCase):

    def test_all(self):
        box = Box.full(3).narrowed(1, low=2) & Box((0, 0, 5), (9, 1, 9))
        self.assertEqual([box.lows, box.highs, bool(box), (3, 2, 6) in Box.full(3)],
                         [(0, 2, 5), (9, 1, 9), False, True])


class TestMaking(BoxCase):
    """Point 26."""

    def test_class_values(self):
        self.assertEqual((Box.LOWEST, Box.HIGHEST), (0, 999))
        self.assertEqual((Box.full(1).LOWEST, Box.full(1).HIGHEST), (0, 999))

    def test_one_window_and_forty(self):
        for many in (1, 2, 39, 40):
            lows, highs = tuple(range(many)), tuple(range(999, 999 - many, -1))
            box = Box(lows, highs)
            self.assertEqual((box.lows, box.highs), (lows, highs))
            self.assertIs(type(box.lows), tuple)

    def test_empty_windows(self):
        box = Box((0, 5, 999), (0, 4, 0))
        self.assertEqual((box.lows, box.highs), ((0, 5, 999), (0, 4, 0)))

    def test_no_rows(self):
        for value in NO_ROWS:
            self.bad_box(None, Box, value, (1, 2, 3))
            self.bad_box(None, Box, (1, 2, 3), value)
            self.bad_box(None, Box, value, value)
        self.bad_box(None, Box, (0,) * 41, (0,) * 41)

    def test_different_lengths(self):
        self.bad_box(None, Box, (1, 2, 3), (1, 2))
        self.bad_box(None, Box, (1, 2), (1, 2, 3))
        self.bad_box(None, Box, (1,), (1,) * 40)
        # The lengths come before the items.
        self.bad_box(None, Box, (None, 2, 3), (1, 2))
        self.bad_box(None, Box, (1, 2), (1, 2, None))

    def test_the_first_position_with_an_item_that_is_no_counter(self):
        for value in NO_COUNTERS:
            for at in range(3):
                row = tuple([value if k == at else 5 for k in range(3)])
                self.bad_box(at, Box, row, (9, 9, 9))
                self.bad_box(at, Box, (0, 0, 0), row)
                self.bad_box(at, Box, row, row)
                self.bad_box(at, Box.exactly, row)
        self.bad_box(39, Box, (0,) * 39 + (-1,), (0,) * 40)

    def test_both_rows_are_looked_at_together(self):
        self.bad_box(1, Box, (0, 0, -1), (9, 1000, 9))
        self.bad_box(1, Box, (0, -1, 0), (9, 9, 1000))
        self.bad_box(0, Box, (0, -1, -1), (True, 9, 9))
        self.bad_box(0, Box, (-1, 0, 0), (9, None, 9))
        self.bad_box(2, Box, (0, 0, None), (9, 9, None))

    def test_full(self):
        for many in range(1, 41):
            self.assertEqual(Box.full(many), Box((0,) * many, (999,) * many))
        for value in (0, -1, 41, 999, 10 ** 5000, True, False, None, "3", 3.0, (3,), [3]):
            self.bad_box(None, Box.full, value)

    def test_exactly(self):
        self.assertEqual(Box.exactly((0, 999, 5)), Box((0, 999, 5), (0, 999, 5)))
        self.assertEqual(Box.exactly((7,)), Box((7,), (7,)))
        for value in NO_ROWS:
            self.bad_box(None, Box.exactly, value)

    def test_arguments(self):
        self.assertEqual(str(inspect.signature(Box)), "(lows, highs)")
        self.assertEqual(str(inspect.signature(Box.full(1).narrowed)), "(stage, *, low=0, high=999)")
        for name in ("full", "exactly"):
            self.assertIsInstance(vars(Box)[name], staticmethod)


class TestMembers(BoxCase):
    """Point 27: state in box."""

    def test_ends_are_included(self):
        box = Box((0, 5, 7), (3, 5, 999))
        for state in itertools.product((0, 1, 2, 3), (5,), (7, 8, 998, 999)):
            self.assertIs(state in box, True)
        for state in ((4, 5, 7), (0, 4, 7), (0, 6, 7), (0, 5, 6), (999, 999, 999), (0, 0, 0)):
            self.assertIs(state in box, False)
            self.assertIs(state not in box, True)

    def test_an_empty_box_holds_nothing(self):
        box = Box((0, 5), (9, 4))
        for state in itertools.product(range(10), repeat=2):
            self.assertIs(state in box, False)

    def test_values_of_any_kind(self):
        box = Box.full(3)
        for value in (None, True, 0, "", "000", b"000", [], [0, 0, 0], {}, set(), range(3), box, Pipeline(3), int,
                      (), (0,), (0, 0), (0, 0, 0, 0), ((0, 0, 0),), ([0], 0, 0), ({}, set(), 0), float("nan"),
                      SAME, (SAME, 0, 0), (SAME,) * 3):
            self.assertIs(value in box, False)
        for value in NO_COUNTERS:
            for at in range(3):
                self.assertIs(tuple([value if k == at else 5 for k in range(3)]) in box, False)

    def test_true_is_not_the_counter_one(self):
        box = Box.exactly((1, 0))
        self.assertIs((1, 0) in box, True)
        self.assertIs((True, 0) in box, False)
        self.assertIs((1, False) in box, False)


class TestCommonWindows(BoxCase):
    """Point 27: box & other."""

    def test_common_windows(self):
        box = Box((0, 5, 7, 3), (9, 6, 8, 1)) & Box((2, 1, 8, 2), (8, 9, 8, 9))
        self.assertEqual((box.lows, box.highs), ((2, 5, 8, 3), (8, 6, 8, 1)))
        self.assertIs(type(box), Box)

    def test_a_state_is_in_both(self):
        one, other = Box((0, 1, 2), (3, 3, 3)), Box((1, 0, 0), (4, 2, 3))
        both = one & other
        self.assertEqual(both, other & one)
        for state in itertools.product(range(5), repeat=3):
            self.assertIs(state in both, state in one and state in other)

    def test_different_numbers_of_windows(self):
        for many, others in ((1, 2), (3, 2), (40, 39), (2, 40)):
            self.bad_box(None, lambda: Box.full(many) & Box.full(others))

    def test_the_boxes_stay(self):
        one, other = Box((0, 5), (9, 6)), Box((2, 1), (8, 9))
        one & other
        self.assertEqual((one, other), (Box((0, 5), (9, 6)), Box((2, 1), (8, 9))))


class TestEqualityAndTruth(BoxCase):
    """Point 27: box == other and bool(box)."""

    def test_equal_boxes(self):
        for one, other in ((Box((0, 5), (9, 6)), Box((0, 5), (9, 6))), (Box.full(3), Box((0,) * 3, (999,) * 3)),
                           (Box((5,), (4,)), Box((5,), (4,)))):
            self.assertTrue(one == other)
            self.assertFalse(one != other)

    def test_different_boxes(self):
        box = Box((0, 5), (9, 6))
        for other in (Box((0, 5), (9, 7)), Box((1, 5), (9, 6)), Box((0,), (9,)), Box((0, 5, 0), (9, 6, 0))):
            self.assertFalse(box == other)
            self.assertTrue(box != other)
        # Two empty boxes differ if their windows do.
        self.assertFalse(Box((5,), (4,)) == Box((5,), (3,)))

    def test_values_of_another_kind(self):
        box = Box((0, 5), (9, 6))
        for other in (None, True, 0, "box", (0, 5), ((0, 5), (9, 6)), [box], Pipeline(2), Box, {}):
            self.assertFalse(box == other)
            self.assertFalse(other == box)
            self.assertTrue(box != other)

    def test_truth(self):
        for box in (Box.full(1), Box.full(40), Box.exactly((0, 0)), Box.exactly((999,)), Box((0, 4), (0, 5))):
            self.assertIs(bool(box), True)
        for box in (Box((1,), (0,)), Box((0, 0, 5), (9, 9, 4)), Box((9, 0), (0, 9)), Box((999,), (0,))):
            self.assertIs(bool(box), False)


class TestNarrowed(BoxCase):
    """Point 27: narrowed."""

    def test_limits(self):
        box = Box((2, 3), (7, 8))
        for named, window in (({}, (2, 7)), ({"low": 4}, (4, 7)), ({"high": 5}, (2, 5)),
                              ({"low": 4, "high": 5}, (4, 5)),
                              ({"low": 1}, (2, 7)), ({"high": 9}, (2, 7)), ({"low": 0, "high": 999}, (2, 7)),
                              ({"low": 8}, (8, 7)), ({"high": 1}, (2, 1)), ({"low": 6, "high": 3}, (6, 3)),
                              ({"low": 999}, (999, 7)), ({"high": 0}, (2, 0))):
            self.assertEqual(box.narrowed(0, **named), Box((window[0], 3), (window[1], 8)))
            other = Box((3, 2), (8, 7)).narrowed(1, **named)
            self.assertEqual(other, Box((3, window[0]), (8, window[1])))
        self.assertEqual(box, Box((2, 3), (7, 8)))

    def test_limits_are_given_by_name(self):
        self.assertRaises(TypeError, Box.full(2).narrowed, 0, 1)
        self.assertRaises(TypeError, Box.full(2).narrowed, 0, 1, 2)

    def test_no_windows(self):
        box = Box((2, 3), (7, 8))
        for value in (*NEVER_NUMBERS, 2, 3, 40, 999):
            self.fails(NotFound, {"number": value}, box.narrowed, value)
            self.fails(NotFound, {"number": value}, box.narrowed, value, low=-1)
            self.fails(NotFound, {"number": value}, box.narrowed, value, high=None)

    def test_limits_that_are_no_counters(self):
        box = Box((2, 3), (7, 8))
        for value in NO_COUNTERS:
            for stage in (0, 1):
                self.bad_box(stage, box.narrowed, stage, low=value)
                self.bad_box(stage, box.narrowed, stage, high=value)
                self.bad_box(stage, box.narrowed, stage, low=1, high=value)
                self.bad_box(stage, box.narrowed, stage, low=value, high=value)
        self.assertEqual(box, Box((2, 3), (7, 8)))
