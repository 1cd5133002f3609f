"""withincall/capacity.py: points 47 and 48 of the document."""

import random

from tests.common import Case, long_net, random_nets, random_state, search, small_net
from withincall.capacity import extra_slots, needed, widened
from withincall.errors import InvalidState, Unreachable
from withincall.nets import Pipeline, Ring
from withincall.reach import objections, reaches

ROW = Pipeline.row(1, 1)
PAIR = ((3, 0, 0), (3, 1, 0))


def lasting(net, start, target):
    """The objections that are not jams."""
    return [objection for objection in objections(net, start, target) if objection[0] != "jammed"]


def words_needed(net, pairs):
    """The needed capacities by the words of point 47."""
    found = []
    for a, b, _ in net.channels:
        loads = [start[a] - start[b] for start, target in pairs if target[a] < start[a] or target[b] > start[b]]
        found.append(max(loads + [1]))
    return tuple(found)


class TestDocumentExample(Case):

    def test_all(self):
        self.assertEqual([needed(ROW, PAIR), extra_slots(ROW, PAIR), needed(ROW)], [(3, 1), 2, (1, 1)])


class TestNeeded(Case):
    """Point 47."""

    def test_no_pairs(self):
        for net in (ROW, Pipeline(1), Pipeline(3), Ring(5, 6, 7), long_net()):
            self.assertEqual(needed(net), (1,) * len(net.channels))
            self.assertEqual(widened(net), net)
            self.assertEqual(extra_slots(net), 0)

    def test_each_side(self):
        net = Pipeline.row(9, 9)
        # The consumer's advance and the producer's rollback draw from a channel. Their opposites do not.
        self.assertEqual(needed(net, ((7, 3, 0), (7, 4, 0))), (4, 1))
        self.assertEqual(needed(net, ((7, 3, 0), (6, 3, 0))), (4, 1))
        self.assertEqual(needed(net, ((7, 3, 0), (7, 2, 0))), (1, 3))
        self.assertEqual(needed(net, ((7, 3, 0), (7, 3, 1))), (1, 3))
        self.assertEqual(needed(net, ((7, 3, 0), (6, 2, 0))), (4, 3))
        self.assertEqual(needed(net, ((7, 3, 0), (7, 3, 0))), (1, 1))
        self.assertEqual(needed(net, ((999, 0, 0), (999, 1, 0))), (999, 1))

    def test_the_capacities_of_the_net_do_not_matter(self):
        for net in (ROW, Pipeline.row(999, 1), Pipeline.row(5, 5)):
            self.assertEqual(needed(net, ((7, 3, 0), (6, 2, 0))), (4, 3))
        self.assertEqual(widened(Pipeline.row(999, 1), ((7, 3, 0), (6, 2, 0))), Pipeline.row(999, 3))

    def test_several_pairs(self):
        pairs = (((7, 3, 0), (7, 4, 0)), ((5, 5, 0), (5, 5, 1)), ((9, 3, 3), (9, 4, 3)), PAIR)
        self.assertEqual(needed(ROW, *pairs), (6, 5))
        self.assertEqual(needed(ROW, *reversed(pairs)), (6, 5))
        self.assertEqual(needed(ROW, *pairs, *pairs), (6, 5))
        self.assertEqual(extra_slots(ROW, *pairs), 9)

    def test_loads_below_1(self):
        # The channel is empty or owes an item, and its consumer advances behind its producer.
        self.assertEqual(needed(Pipeline.row(1, 1), ((3, 0, 0), (3, 2, 1))), (3, 1))
        self.assertEqual(needed(Pipeline.row(1, 1), ((3, 0, 1), (3, 3, 2))), (3, 1))

    def test_rings(self):
        ring = Ring(1, 1, 1)
        self.assertEqual(needed(ring, ((4, 1, 0), (4, 2, 0))), (3, 1, 1))
        self.assertEqual(widened(ring, ((4, 1, 0), (4, 2, 0))), Ring(3, 1, 1))
        self.assertIs(widened(ring, ((4, 1, 0), (4, 2, 0))).is_ring(), True)
        self.fails(Unreachable, {"objection": ("above", 1)}, needed, ring, ((4, 1, 0), (4, 5, 0)))

    def test_against_the_words_and_smaller_capacities(self):
        chance = random.Random(121)
        smaller = 0
        for k, net in enumerate(random_nets()):
            pairs = []
            for _ in range(k % 4):
                start = random_state(chance, net, 6)
                target = tuple([max(0, counter + chance.choice((-1, 0, 0, 0, 1))) for counter in start])
                if not lasting(net, start, target):
                    pairs.append((start, target))
            found = needed(net, *pairs)
            self.assertEqual(found, words_needed(net, pairs))
            exact = net.resized(*found)
            greater = net.resized(*[min(999, capacity + chance.randint(0, 3)) for capacity in found])
            for start, target in pairs:
                self.assertIs(reaches(exact, start, target), True)
                self.assertIs(reaches(greater, start, target), True)
                self.assertIs(reaches(widened(net, *pairs), start, target), True)
            for channel, capacity in enumerate(found):
                if capacity > 1:
                    less = net.resized(*found[:channel], capacity - 1, *found[channel + 1:])
                    self.assertIs(all([reaches(less, start, target) for start, target in pairs]), False)
                    smaller += 1
        self.assertGreater(smaller, 15)

    def test_small_nets(self):
        chance = random.Random(122)
        for _ in range(150):
            net = small_net(chance)
            start = random_state(chance, net, 4)
            target = chance.choice(sorted(search(net.resized(*[9] * len(net.channels)), start)))
            found = needed(net, (start, target))
            self.assertIn(target, search(net.resized(*found), start))
            for channel, capacity in enumerate(found):
                if capacity > 1:
                    less = net.resized(*found[:channel], capacity - 1, *found[channel + 1:])
                    self.assertNotIn(target, search(less, start))


class TestWidened(Case):
    """Point 48."""

    def test_only_what_is_too_small(self):
        net = Pipeline.row(9, 2, 4)
        pairs = (((7, 3, 0, 0), (6, 2, 0, 0)), ((9, 8, 7, 0), (9, 8, 7, 1)))
        self.assertEqual(needed(net, *pairs), (4, 3, 7))
        self.assertEqual(widened(net, *pairs), Pipeline.row(9, 3, 7))
        self.assertEqual(extra_slots(net, *pairs), 4)
        self.assertEqual(net, Pipeline.row(9, 2, 4))

    def test_as_the_words_say(self):
        chance = random.Random(123)
        for net in random_nets():
            start = random_state(chance, net, 9)
            target = tuple([max(0, counter + chance.choice((-1, 0, 0, 1))) for counter in start])
            if not lasting(net, start, target):
                wide = widened(net, (start, target))
                own = [capacity for _, _, capacity in net.channels]
                more = [max(pair) for pair in zip(own, needed(net, (start, target)))]
                self.assertEqual(wide, net.resized(*more))
                self.assertEqual(extra_slots(net, (start, target)), sum(more) - sum(own))


class TestErrors(Case):

    CALLS = (needed, widened, extra_slots)

    def test_the_states_in_their_order(self):
        good, unreached = (2, 1, 0), ((1, 1, 1), (2, 1, 1))
        for state, position in ((None, None), ((2, 1), None), ((2, 1, 1000), 2), ((2, True, -1), 1), ([2, 1, 0], None)):
            for call in self.CALLS:
                self.fails(InvalidState, {"position": position}, call, ROW, (state, None))
                self.fails(InvalidState, {"position": position}, call, ROW, (good, state))
                self.fails(InvalidState, {"position": position}, call, ROW, PAIR, (state, (1,)), (None, None))
                self.fails(InvalidState, {"position": position}, call, ROW, PAIR, (good, state), (None, None))
                # Before anything else, also before a pair that is not reached.
                self.fails(InvalidState, {"position": position}, call, ROW, unreached, (good, state))

    def test_the_first_pair_with_an_objection_that_is_no_jam(self):
        source, sink = ((1, 1, 1), (2, 1, 1)), ((2, 1, 1), (2, 1, 0))
        orphan, jam = ((2, 1, 1), (0, 1, 1)), ((9, 1, 1), (9, 2, 1))
        for call in self.CALLS:
            self.fails(Unreachable, {"objection": ("source", 0)}, call, ROW, source, sink)
            self.fails(Unreachable, {"objection": ("sink", 2)}, call, ROW, sink, source)
            self.fails(Unreachable, {"objection": ("orphan", 0)}, call, ROW, jam, PAIR, orphan, source)
            # The jams of a pair are passed over, also where they come first.
            self.fails(Unreachable, {"objection": ("orphan", 0)}, call, ROW, ((9, 5, 1), (8, 9, 0)))
        self.assertEqual(objections(ROW, (9, 5, 1), (8, 9, 0)), (("jammed", 0), ("orphan", 0), ("sink", 2)))
        self.assertEqual(needed(ROW, jam), (8, 1))

    def test_a_ring_with_an_objection_behind_a_jam(self):
        self.fails(Unreachable, {"objection": ("above", 0)}, needed, Ring(1, 1, 1), ((30, 1, 0), (31, 2, 32)))


class TestWork(Case):

    def test_many_pairs_of_a_large_net(self):
        net = long_net(capacity=1)
        start = tuple(range(999, 959, -1))
        pairs = [(start, start[:k] + (start[k] + 1,) + start[k + 1:]) for k in range(2, 40)] * 3
        found = self.quick(needed, net, *pairs)
        self.assertEqual(found, tuple([b - a if b > 1 else 1 for a, b, _ in net.channels]))
        self.assertEqual(self.quick(extra_slots, net, *pairs), sum(found) - 120)
        self.assertIs(reaches(net, start, pairs[-1][1]), False)
        self.assertIs(reaches(self.quick(widened, net, *pairs), start, pairs[-1][1]), True)


class TestWholeProgram(Case):
    """Point 2, for capacities."""

    def test_nothing_passed_is_changed_and_equal_calls_are_equal(self):
        for _ in range(2):
            net, pair = Pipeline.row(1, 1), ((3, 0, 0), (3, 1, 0))
            self.assertEqual([needed(net, pair), extra_slots(net, pair)], [(3, 1), 2])
            self.assertEqual(widened(net, pair), Pipeline.row(3, 1))
            self.assertEqual((net, pair), (ROW, PAIR))

    def test_kinds_of_results(self):
        self.assertIs(type(needed(ROW, PAIR)), tuple)
        self.assertIs(type(needed(Pipeline(1))), tuple)
        self.assertIs(type(extra_slots(ROW, PAIR)), int)
