"""withincall/states.py: points 8 to 11 of the document, and point 2 for states."""

import random

from tests.common import NEVER_NUMBERS, Case, random_nets, random_state
from withincall.errors import InvalidState, NotFound
from withincall.nets import Pipeline, Ring
from withincall.states import (
    check_state, condition, conditions, holders, is_clean, load, loads, mirror_state, orphans)

ROW = Pipeline.row(2, 1)
NO_COUNTERS = (-1, 1000, 10 ** 5000, True, False, None, "1", 1.0, (1,), [1])

# Each function that takes a state, with arguments behind it that are right, and wrong ones.
QUESTIONS = (
    (check_state, (), ()),
    (load, (0,), (99,)),
    (condition, (0,), (None,)),
    (loads, (), ()),
    (conditions, (), ()),
    (holders, (1,), (0,)),
    (orphans, (), ()),
    (is_clean, (), ()),
    (mirror_state, (), ()),
)


class TestDocumentExample(Case):

    def test_conditions_orphans_holders(self):
        found = [conditions(ROW, (1, 3, 0)), orphans(ROW, (1, 3, 0)), holders(ROW, (1, 3, 0), 2)]
        self.assertEqual(found, [("owing", "jammed"), ((0, 2, 3),), (1,)])


class TestCheckState(Case):
    """Point 8."""

    def test_states(self):
        for net, state in ((ROW, (0, 0, 0)), (ROW, (999, 999, 999)), (ROW, (0, 999, 5)),
                           (Pipeline(1), (0,)), (Pipeline(40), (999,) * 40), (Ring(1, 1, 1), (3, 2, 1))):
            self.assertIs(check_state(net, state), state)

    def test_another_kind_or_length(self):
        for net in (ROW, Ring(1, 1, 1)):
            for state in (None, 3, True, "123", b"123", [1, 2, 3], {0: 1, 1: 2, 2: 3}, range(3), net,
                          (), (1,), (1, 2), (1, 2, 3, 4), (None,), (-1, 0, 0, 0)):
                for question, right, wrong in QUESTIONS:
                    self.fails(InvalidState, {"position": None}, question, net, state, *right)
                    self.fails(InvalidState, {"position": None}, question, net, state, *wrong)

    def test_the_first_item_that_is_no_counter(self):
        for net in (ROW, Ring(1, 1, 1)):
            for bad in NO_COUNTERS:
                for position, state in ((0, (bad, 5, 5)), (1, (0, bad, 5)), (2, (0, 999, bad)),
                                        (0, (bad, bad, bad)), (1, (0, bad, bad))):
                    for question, right, wrong in QUESTIONS:
                        self.fails(InvalidState, {"position": position}, question, net, state, *right)
                        self.fails(InvalidState, {"position": position}, question, net, state, *wrong)

    def test_a_long_state(self):
        net = Pipeline(40)
        self.fails(InvalidState, {"position": 39}, check_state, net, (0,) * 39 + (1000,))
        self.fails(InvalidState, {"position": None}, check_state, net, (0,) * 39)
        self.fails(InvalidState, {"position": None}, check_state, net, (0,) * 41)


class TestLoads(Case):
    """Point 9."""

    def test_load(self):
        self.assertEqual(load(ROW, (1, 3, 0), 0), -2)
        self.assertEqual(load(ROW, (1, 3, 0), 1), 3)
        self.assertEqual(load(ROW, (999, 0, 999), 0), 999)
        self.assertEqual(load(ROW, (999, 0, 999), 1), -999)
        self.assertEqual(load(Ring(1, 1, 1), (1, 2, 5), 2), 4)

    def test_loads(self):
        self.assertEqual(loads(ROW, (1, 3, 0)), (-2, 3))
        self.assertEqual(loads(Ring(1, 1, 1), (1, 2, 5)), (-1, -3, 4))
        self.assertEqual(loads(Pipeline(3), (1, 2, 3)), ())

    def test_the_edges_of_the_conditions(self):
        net = Pipeline.row(3)
        words = [(0, 999, "owing"), (4, 5, "owing"), (5, 5, "empty"), (0, 0, "empty"), (6, 5, "ready"),
                 (7, 5, "ready"), (8, 5, "ready"), (9, 5, "jammed"), (999, 0, "jammed")]
        for producer, consumer, word in words:
            self.assertEqual(condition(net, (producer, consumer), 0), word)
            self.assertEqual(conditions(net, (producer, consumer)), (word,))

    def test_capacities_1_and_999(self):
        for amount, word in ((0, "empty"), (1, "ready"), (2, "jammed"), (999, "jammed")):
            self.assertEqual(condition(Pipeline.row(1), (amount, 0), 0), word)
        for amount, word in ((0, "empty"), (1, "ready"), (998, "ready"), (999, "ready")):
            self.assertEqual(condition(Pipeline.row(999), (amount, 0), 0), word)

    def test_each_channel_has_its_own_capacity(self):
        net = Pipeline(4, (2, 3, 3), (0, 2, 5), (1, 2, 4))
        self.assertEqual(conditions(net, (9, 9, 4, 0)), ("ready", "jammed", "jammed"))
        self.assertEqual(conditions(net, (9, 8, 4, 1)), ("ready", "ready", "ready"))
        self.assertEqual(conditions(Pipeline(3), (1, 2, 3)), ())

    def test_no_channels(self):
        for net in (ROW, Ring(1, 1, 1), Pipeline(3)):
            many = len(net.channels)
            for value in (*NEVER_NUMBERS, many, many + 1, -many):
                self.fails(NotFound, {"number": value}, load, net, (0, 0, 0), value)
                self.fails(NotFound, {"number": value}, condition, net, (0, 0, 0), value)


class TestItems(Case):
    """Point 10."""

    def test_holders(self):
        self.assertEqual(holders(ROW, (1, 3, 0), 1), (0, 1))
        self.assertEqual(holders(ROW, (1, 3, 0), 3), (1,))
        self.assertEqual(holders(ROW, (1, 3, 0), 4), ())
        self.assertEqual(holders(ROW, (0, 0, 0), 1), ())
        self.assertEqual(holders(ROW, (999, 998, 999), 999), (0, 2))
        self.assertEqual(holders(ROW, (999, 998, 1), 1), (0, 1, 2))
        self.assertEqual(holders(Pipeline(3), (2, 1, 2), 2), (0, 2))

    def test_no_items(self):
        for item in (0, 1000, 1001, *NEVER_NUMBERS):
            self.fails(NotFound, {"number": item}, holders, ROW, (1, 3, 0), item)

    def test_orphans(self):
        self.assertEqual(orphans(ROW, (1, 1, 0)), ())
        self.assertEqual(orphans(ROW, (1, 1, 2)), ((1, 2, 2),))
        self.assertEqual(orphans(ROW, (0, 1, 999)), ((0, 1, 1), (1, 2, 999)))
        self.assertEqual(orphans(ROW, (0, 999, 0)), ((0, 1, 999),))
        self.assertEqual(orphans(Ring(1, 1, 1), (1, 2, 5)), ((0, 2, 2), (1, 3, 5)))
        self.assertEqual(orphans(Pipeline(3), (1, 2, 5)), ())

    def test_is_clean(self):
        for net, state in ((ROW, (0, 0, 0)), (ROW, (9, 9, 0)), (ROW, (3, 2, 1)), (Pipeline(2), (0, 5)),
                           (Ring(1, 1, 1), (4, 4, 4))):
            self.assertIs(is_clean(net, state), True)
        for net, state in ((ROW, (0, 1, 0)), (ROW, (9, 0, 1)), (ROW, (0, 999, 999)),
                           (Ring(1, 1, 1), (4, 4, 3))):
            self.assertIs(is_clean(net, state), False)

    def test_orphans_are_what_consumers_hold_and_producers_do_not(self):
        chance = random.Random(3)
        for net in random_nets():
            state = random_state(chance, net)
            held = {item: holders(net, state, item) for item in range(1, 8)}
            found = []
            for number, (producer, consumer, _) in enumerate(net.channels):
                items = [k for k in held if consumer in held[k] and producer not in held[k]]
                if items:
                    found.append((number, items[0], items[-1]))
                    self.assertEqual(len(items), items[-1] - items[0] + 1)
                self.assertEqual(bool(items), condition(net, state, number) == "owing")
            self.assertEqual(orphans(net, state), tuple(found))
            self.assertIs(is_clean(net, state), found == [])


class TestMirror(Case):
    """Point 11."""

    def test_mirror_state(self):
        self.assertEqual(mirror_state(ROW, (1, 3, 0)), (999, 996, 998))
        self.assertEqual(mirror_state(Pipeline(1), (999,)), (0,))
        self.assertEqual(mirror_state(Ring(1, 1, 1), (0, 999, 500)), (499, 0, 999))

    def test_mirrors_of_many_states(self):
        chance = random.Random(5)
        for net in random_nets():
            state = random_state(chance, net, chance.choice((4, 999)))
            other, mirror = net.mirrored(), mirror_state(net, state)
            self.assertIs(check_state(other, mirror), mirror)
            self.assertEqual(mirror_state(other, mirror), state)
            last = net.stages - 1
            for number, (producer, consumer, capacity) in enumerate(net.channels):
                turned = other.channels.index((last - consumer, last - producer, capacity))
                self.assertEqual(load(other, mirror, turned), load(net, state, number))
                self.assertEqual(condition(other, mirror, turned), condition(net, state, number))


class TestWholeProgram(Case):
    """Point 2, for states."""

    def test_nothing_passed_is_changed(self):
        net, state = Pipeline.row(2, 1), (1, 3, 0)
        for question, right, _ in QUESTIONS:
            first = question(net, state, *right)
            self.assertEqual(question(Pipeline.row(2, 1), (1, 3, 0), *right), first)
        self.assertEqual((net, state), (Pipeline.row(2, 1), (1, 3, 0)))

    def test_rows_of_results_are_tuples(self):
        for net in (Pipeline(3), ROW, Ring(1, 1, 1)):
            state = (1, 3, 0)
            for row in (check_state(net, state), loads(net, state), conditions(net, state),
                        holders(net, state, 1), orphans(net, state), mirror_state(net, state)):
                self.assertIs(type(row), tuple)

    def test_single_answers_agree_with_rows(self):
        chance = random.Random(9)
        for net in random_nets():
            state = random_state(chance, net)
            numbers = range(len(net.channels))
            self.assertEqual(tuple([load(net, state, k) for k in numbers]), loads(net, state))
            self.assertEqual(tuple([condition(net, state, k) for k in numbers]), conditions(net, state))
