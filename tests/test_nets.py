"""withincall/nets.py: points 2 to 7 of the document."""

import inspect

from tests.common import NEVER_NUMBERS, Case, random_nets
from withincall.errors import InvalidNet, NotFound
from withincall.nets import Net, Pipeline, Ring

NO_CAPACITIES = (0, -1, 1000, 10 ** 5000, True, False, None, "1", 1.0, (1,), [1])
NO_STAGES = (0, -1, 41, 10 ** 5000, True, False, None, "3", 2.0, (3,), [3])
# All pairs of sixteen stages: exactly as many channels as a net may have.
MANY_PAIRS = [(low, high) for high in range(16) for low in range(high)]


class NetCase(Case):

    def bad_net(self, reason, position, call, *args, **named):
        self.fails(InvalidNet, {"reason": reason, "position": position}, call, *args, **named)

    def no_numbers(self, call, many):
        """The call raises NotFound for all that is not one of so many numbers."""
        for value in (*NEVER_NUMBERS, many, many + 1, 999, -many):
            self.fails(NotFound, {"number": value}, call, value)


class TestDocumentExamples(Case):

    def test_channels_slots_upstream_summary(self):
        net = Pipeline(4, (2, 3), (0, 2, 5), (1, 2), capacity=4)
        self.assertEqual(
            [net.channels, net.slots, net.upstream(3), net.summary()],
            [((0, 2, 5), (1, 2, 4), (2, 3, 4)), 13, (0, 1, 2),
             "pipeline of 4 stages, 3 channels, 13 slots"])

    def test_circle(self):
        self.fails(InvalidNet, {"reason": "circle", "position": None},
                   Pipeline, 3, (0, 1), (1, 2), (2, 0))

    def test_capacity(self):
        self.fails(InvalidNet, {"reason": "capacity", "position": 1},
                   Pipeline, 3, (0, 1), (1, 2, 0))

    def test_ring_and_mirror(self):
        self.assertEqual(
            [Ring(2, 1, 3).channels, Ring(2, 1, 3).mirrored().channels],
            [((0, 1, 2), (1, 2, 1), (2, 0, 3)), ((0, 1, 1), (1, 2, 2), (2, 0, 3))])


class TestNets(NetCase):
    """Point 3."""

    def test_class_values(self):
        for kind in (Net, Pipeline, Ring, Pipeline(1), Ring(1, 1, 1)):
            found = (kind.MOST_STAGES, kind.MOST_CHANNELS, kind.MOST_CAPACITY, kind.MOST_COUNTER)
            self.assertEqual(found, (40, 120, 999, 999))

    def test_is_capacity(self):
        for kind in (Net, Pipeline, Ring, Pipeline(1)):
            for value in (1, 2, 998, 999):
                self.assertIs(kind.is_capacity(value), True)
            for value in NO_CAPACITIES:
                self.assertIs(kind.is_capacity(value), False)

    def test_channels_are_a_tuple_of_triples_in_ascending_order(self):
        pairs = [(3, 4), (0, 4), (2, 3), (0, 1), (1, 4)]
        net = Pipeline(5, *pairs)
        self.assertEqual(net.channels, ((0, 1, 1), (0, 4, 1), (1, 4, 1), (2, 3, 1), (3, 4, 1)))
        for channel in net.channels:
            self.assertIs(type(channel), tuple)

    def test_numbers_are_compared_as_numbers(self):
        net = Pipeline(12, (10, 11), (2, 11), (2, 9), (9, 10))
        self.assertEqual(net.channels, ((2, 9, 1), (2, 11, 1), (9, 10, 1), (10, 11, 1)))

    def test_two_kinds(self):
        self.assertIs(Pipeline(3).is_ring(), False)
        self.assertIs(Ring(1, 1, 1).is_ring(), True)
        self.assertIsInstance(Pipeline(3), Net)
        self.assertIsInstance(Ring(1, 1, 1), Net)
        self.assertNotIsInstance(Ring(1, 1, 1), Pipeline)

    def test_slots(self):
        self.assertEqual(Pipeline(5).slots, 0)
        self.assertEqual(Pipeline.row(999, 1, 7).slots, 1007)
        self.assertEqual(Ring(2, 1, 3).slots, 6)

    def test_summary(self):
        self.assertEqual(Pipeline(1).summary(), "pipeline of 1 stages, 0 channels, 0 slots")
        self.assertEqual(Pipeline.row(1).summary(), "pipeline of 2 stages, 1 channels, 1 slots")
        self.assertEqual(Ring(2, 1, 3).summary(), "ring of 3 stages, 3 channels, 6 slots")
        self.assertEqual(Net.summary(Ring(2, 1, 3)), "3 stages, 3 channels, 6 slots")


class TestPipeline(NetCase):
    """Point 4."""

    def test_arguments(self):
        found = str(inspect.signature(Pipeline))
        self.assertEqual(found, "(stages, *channels, capacity=1)")

    def test_numbers_of_stages(self):
        for stages in range(1, 41):
            net = Pipeline(stages)
            self.assertEqual((net.stages, net.channels), (stages, ()))

    def test_wrong_numbers_of_stages(self):
        for stages in NO_STAGES:
            self.bad_net("stages", None, Pipeline, stages)

    def test_120_channels_and_121(self):
        net = Pipeline(16, *MANY_PAIRS)
        self.assertEqual(len(net.channels), 120)
        self.assertEqual(net.channels, tuple([(*pair, 1) for pair in sorted(MANY_PAIRS)]))
        pairs = [*MANY_PAIRS, (0, 16)]
        self.bad_net("limit", None, Pipeline, 17, *pairs)

    def test_pairs_and_triples(self):
        self.assertEqual(Pipeline(3, (0, 1), (1, 2)).channels, ((0, 1, 1), (1, 2, 1)))
        self.assertEqual(Pipeline(3, (0, 1), (1, 2), capacity=7).channels, ((0, 1, 7), (1, 2, 7)))
        self.assertEqual(Pipeline(3, (0, 1, 2), (1, 2, 5), capacity=7).channels, ((0, 1, 2), (1, 2, 5)))
        self.assertEqual(Pipeline(3, (1, 2), (0, 1, 2), capacity=7).channels, ((0, 1, 2), (1, 2, 7)))

    def test_capacities_1_and_999(self):
        net = Pipeline(3, (0, 1, 1), (1, 2, 999))
        self.assertEqual(net.channels, ((0, 1, 1), (1, 2, 999)))
        for capacity in (1, 999):
            self.assertEqual(Pipeline(2, (0, 1), capacity=capacity).channels, ((0, 1, capacity),))

    def test_wrong_channels(self):
        wrong = (
            None, 0, "ab", b"ab", [0, 1], [0, 1, 1], (), (0,), (0, 1, 1, 1), ((0, 1), 1),
            (0, 0), (2, 2, 5), (0, 3), (3, 0), (-1, 1), (1, -1), (0, 999), (0, 10 ** 5000),
            (True, 0), (0, True), (False, 1), (1, False), (None, 1), (0, None), ("0", 1), (0, "1"),
            (0.0, 1), (0, 1.0), ([0], 1), (0, [1]),
        )
        for channel in wrong:
            self.bad_net("channel", 0, Pipeline, 3, channel)
            self.bad_net("channel", 1, Pipeline, 3, (0, 1), channel, (1, 2))

    def test_wrong_capacities(self):
        for capacity in NO_CAPACITIES:
            self.bad_net("capacity", 0, Pipeline, 3, (0, 1, capacity))
            self.bad_net("capacity", 1, Pipeline, 3, (1, 2), (0, 1, capacity))
            self.bad_net("capacity", None, Pipeline, 3, (0, 1), capacity=capacity)

    def test_duplicates(self):
        self.bad_net("duplicate", 1, Pipeline, 3, (0, 1), (0, 1))
        self.bad_net("duplicate", 1, Pipeline, 3, (0, 1), (0, 1, 5))
        self.bad_net("duplicate", 3, Pipeline, 3, (0, 1, 2), (0, 2), (1, 2), (0, 1, 3), (0, 2))

    def test_the_same_stages_in_the_other_direction_are_no_duplicate(self):
        self.bad_net("circle", None, Pipeline, 2, (0, 1), (1, 0))

    def test_circles(self):
        self.bad_net("circle", None, Pipeline, 4, (0, 1), (1, 2), (2, 3), (3, 1))
        self.bad_net("circle", None, Pipeline, 6, (0, 1), (3, 4), (4, 5), (5, 3))
        self.bad_net("circle", None, Pipeline, 4, (3, 2), (2, 1), (1, 0), (0, 3))
        around = [(stage, (stage + 1) % 40) for stage in range(40)]
        self.bad_net("circle", None, Pipeline, 40, *around)

    def test_no_circles(self):
        diamond = Pipeline(4, (0, 1), (0, 2), (1, 3), (2, 3))
        self.assertEqual(len(diamond.channels), 4)
        backwards = Pipeline(4, (3, 2), (2, 1), (1, 0), (3, 0))
        self.assertEqual(backwards.channels, ((1, 0, 1), (2, 1, 1), (3, 0, 1), (3, 2, 1)))
        apart = Pipeline(40, *[(stage, stage + 1) for stage in range(0, 40, 2)])
        self.assertEqual(len(apart.channels), 20)

    def test_the_keyword_argument_is_always_checked(self):
        self.bad_net("capacity", None, Pipeline, 1, capacity=0)
        self.bad_net("capacity", None, Pipeline, 2, (0, 1, 5), capacity=1000)
        self.bad_net("capacity", None, Pipeline, 2, (0, 1, 5), capacity=None)


class TestOrderOfChecks(NetCase):
    """Point 4: which of several faults comes first."""

    def test_stages_before_all(self):
        pairs = [*MANY_PAIRS, (0, 16)]
        self.bad_net("stages", None, Pipeline, 41, *pairs, capacity=0)
        self.bad_net("stages", None, Pipeline, True, None, capacity=0)

    def test_limit_before_channels(self):
        nothing = [None] * 121
        self.bad_net("limit", None, Pipeline, 3, *nothing, capacity=0)
        self.bad_net("channel", 0, Pipeline, 3, *nothing[:120], capacity=0)

    def test_the_first_wrong_channel_counts(self):
        self.bad_net("capacity", 0, Pipeline, 3, (0, 1, 0), (0, 0), (0, 1))
        self.bad_net("duplicate", 1, Pipeline, 3, (0, 1), (0, 1), (0, 0), (1, 2, 0))
        self.bad_net("channel", 1, Pipeline, 3, (0, 1), (0, 3), (0, 1), (1, 2, 0))

    def test_channel_before_capacity_before_duplicate(self):
        self.bad_net("channel", 0, Pipeline, 3, (0, 0, 0))
        self.bad_net("channel", 1, Pipeline, 3, (0, 1), (0, 3, 0))
        self.bad_net("capacity", 1, Pipeline, 3, (0, 1), (0, 1, 0))

    def test_channels_before_the_keyword_argument(self):
        self.bad_net("channel", 1, Pipeline, 3, (0, 1), (0, 3), capacity=0)
        self.bad_net("capacity", 1, Pipeline, 3, (0, 1), (1, 2, 0), capacity=0)
        self.bad_net("duplicate", 1, Pipeline, 3, (0, 1), (0, 1), capacity=0)

    def test_the_keyword_argument_before_a_circle(self):
        self.bad_net("capacity", None, Pipeline, 2, (0, 1), (1, 0), capacity=0)

    def test_all_channels_before_a_circle(self):
        self.bad_net("channel", 2, Pipeline, 3, (0, 1), (1, 0), (2, 2))
        self.bad_net("duplicate", 2, Pipeline, 3, (0, 1), (1, 0), (0, 1))


class TestRingAndRow(NetCase):
    """Point 5."""

    def test_rings(self):
        for stages in range(3, 41):
            capacities = [stage + 1 for stage in range(stages)]
            net = Ring(*capacities)
            channels = [(stage, stage + 1, stage + 1) for stage in range(stages - 1)]
            self.assertEqual(net.stages, stages)
            self.assertEqual(net.channels, (*channels, (stages - 1, 0, stages)))
        self.assertEqual(Ring(999, 1, 999).channels, ((0, 1, 999), (1, 2, 1), (2, 0, 999)))

    def test_wrong_numbers_of_ring_stages(self):
        for stages in (0, 1, 2, 41, 42, 120, 121):
            for capacity in (1, 0):
                capacities = [capacity] * stages
                self.bad_net("stages", None, Ring, *capacities)

    def test_wrong_ring_capacities(self):
        for capacity in NO_CAPACITIES:
            self.bad_net("capacity", 0, Ring, capacity, 1, capacity)
            self.bad_net("capacity", 2, Ring, 1, 999, capacity)

    def test_rows(self):
        for stages in range(1, 41):
            capacities = [stage + 1 for stage in range(stages - 1)]
            net = Pipeline.row(*capacities)
            channels = [(stage, stage + 1, stage + 1) for stage in range(stages - 1)]
            self.assertIs(type(net), Pipeline)
            self.assertEqual((net.stages, net.channels), (stages, tuple(channels)))
        self.assertEqual(Pipeline.row(999, 1), Pipeline(3, (1, 2, 1), (0, 1, 999)))

    def test_too_many_row_capacities(self):
        for many in (40, 41, 121):
            for capacity in (1, 0):
                capacities = [capacity] * many
                self.bad_net("stages", None, Pipeline.row, *capacities)

    def test_wrong_row_capacities(self):
        for capacity in NO_CAPACITIES:
            self.bad_net("capacity", 0, Pipeline.row, capacity)
            self.bad_net("capacity", 1, Pipeline.row, 1, capacity, capacity)
            self.bad_net("capacity", 38, Pipeline.row, *[1] * 38, capacity)


class TestNeighbours(NetCase):
    """Point 6."""

    def test_incoming_and_outgoing(self):
        net = Pipeline(4, (2, 3), (0, 2, 5), (1, 2), capacity=4)
        self.assertEqual([net.incoming(stage) for stage in range(4)], [(), (), (0, 1), (2,)])
        self.assertEqual([net.outgoing(stage) for stage in range(4)], [(0,), (1,), (2,), ()])

    def test_upstream_and_downstream(self):
        net = Pipeline(6, (4, 1), (1, 3), (4, 0), (0, 3), (3, 2))
        self.assertEqual([net.upstream(stage) for stage in range(6)],
                         [(4,), (4,), (0, 1, 3, 4), (0, 1, 4), (), ()])
        self.assertEqual([net.downstream(stage) for stage in range(6)],
                         [(2, 3), (2, 3), (), (2,), (0, 1, 2, 3), ()])

    def test_a_ring(self):
        for stages in (3, 4, 40):
            net = Ring(*[1] * stages)
            for stage in range(stages):
                others = tuple([other for other in range(stages) if other != stage])
                self.assertEqual(net.upstream(stage), others)
                self.assertEqual(net.downstream(stage), others)
                self.assertEqual(net.outgoing(stage), (stage,))
                self.assertEqual(net.incoming(stage), ((stage - 1) % stages,))

    def test_a_stage_without_channels(self):
        net = Pipeline(2)
        for question in (net.incoming, net.outgoing, net.upstream, net.downstream):
            self.assertEqual([question(0), question(1)], [(), ()])

    def test_no_stages(self):
        for net in (Pipeline(1), Pipeline.row(2, 1), Ring(1, 1, 1), Pipeline(40)):
            for question in (net.incoming, net.outgoing, net.upstream, net.downstream):
                self.no_numbers(question, net.stages)

    def test_many_nets_against_paths(self):
        for net in random_nets():
            joined = [[(a, b) in [row[:2] for row in net.channels] for b in range(net.stages)]
                      for a in range(net.stages)]
            for middle in range(net.stages):
                for a in range(net.stages):
                    for b in range(net.stages):
                        joined[a][b] = joined[a][b] or (joined[a][middle] and joined[middle][b])
            for stage in range(net.stages):
                others = [other for other in range(net.stages) if other != stage]
                self.assertEqual(net.upstream(stage), tuple([k for k in others if joined[k][stage]]))
                self.assertEqual(net.downstream(stage), tuple([k for k in others if joined[stage][k]]))
                for number, (producer, consumer, _) in enumerate(net.channels):
                    self.assertEqual(number in net.incoming(stage), consumer == stage)
                    self.assertEqual(number in net.outgoing(stage), producer == stage)
                self.assertEqual(net.incoming(stage), tuple(sorted(net.incoming(stage))))
                self.assertEqual(net.outgoing(stage), tuple(sorted(net.outgoing(stage))))


class TestOtherNets(NetCase):
    """Point 7."""

    def test_resized(self):
        net = Pipeline(4, (2, 3), (0, 2, 5), (1, 2), capacity=4)
        other = net.resized(1, 2, 999)
        self.assertEqual(other.channels, ((0, 2, 1), (1, 2, 2), (2, 3, 999)))
        self.assertEqual((other.stages, other.is_ring()), (4, False))
        ring = Ring(2, 1, 3).resized(4, 5, 6)
        self.assertEqual((ring.channels, ring.is_ring()), (((0, 1, 4), (1, 2, 5), (2, 0, 6)), True))
        self.assertEqual(Pipeline(3).resized(), Pipeline(3))
        self.assertEqual(net.slots, 13)

    def test_resized_with_a_wrong_number_of_capacities(self):
        net = Pipeline.row(2, 1)
        for capacities in ((), (1,), (1, 2, 3), (0,), (0, 0, 0)):
            self.bad_net("count", None, net.resized, *capacities)
        for capacities in ((), (1, 2), (1, 2, 3, 4), (0, 0), [1] * 41):
            self.bad_net("count", None, Ring(1, 1, 1).resized, *capacities)
        self.bad_net("count", None, Pipeline(1).resized, 1)

    def test_resized_with_wrong_capacities(self):
        for capacity in NO_CAPACITIES:
            for net in (Pipeline.row(2, 1, 1), Ring(1, 1, 1)):
                self.bad_net("capacity", 0, net.resized, capacity, 1, capacity)
                self.bad_net("capacity", 2, net.resized, 1, 1, capacity)

    def test_without(self):
        net = Pipeline(4, (2, 3), (0, 2, 5), (1, 2), capacity=4)
        self.assertEqual(net.without(0), Pipeline(4, (1, 2, 4), (2, 3, 4)))
        self.assertEqual(net.without(1), Pipeline(4, (0, 2, 5), (2, 3, 4)))
        self.assertEqual(net.without(2), Pipeline(4, (0, 2, 5), (1, 2, 4)))
        self.assertEqual(Pipeline.row(3).without(0), Pipeline(2))
        self.assertEqual(len(net.channels), 3)

    def test_a_ring_becomes_a_pipeline(self):
        net = Ring(2, 1, 3)
        self.assertEqual(net.without(2), Pipeline.row(2, 1))
        self.assertEqual(net.without(0), Pipeline(3, (1, 2, 1), (2, 0, 3)))
        self.assertIs(net.without(1).is_ring(), False)
        self.assertIs(type(net.without(1)), Pipeline)
        self.assertIs(net.is_ring(), True)

    def test_without_a_channel_that_does_not_exist(self):
        for net in (Pipeline(3), Pipeline.row(2, 1), Ring(1, 1, 1), Pipeline(16, *MANY_PAIRS)):
            self.no_numbers(net.without, len(net.channels))

    def test_mirrored(self):
        net = Pipeline(4, (2, 3), (0, 2, 5), (1, 2), capacity=4)
        self.assertEqual(net.mirrored().channels, ((0, 1, 4), (1, 2, 4), (1, 3, 5)))
        self.assertEqual(net.mirrored().stages, 4)
        self.assertEqual(Pipeline(2).mirrored(), Pipeline(2))
        self.assertEqual(Pipeline.row(1, 2, 3).mirrored(), Pipeline.row(3, 2, 1))
        self.assertEqual(Ring(1, 2, 3, 4).mirrored(), Ring(3, 2, 1, 4))

    def test_mirrors_of_many_nets(self):
        for net in random_nets():
            other = net.mirrored()
            last = net.stages - 1
            turned = sorted([(last - b, last - a, c) for a, b, c in net.channels])
            self.assertEqual(other.channels, tuple(turned))
            self.assertEqual((other.stages, type(other)), (net.stages, type(net)))
            self.assertEqual(other.mirrored(), net)
            for stage in range(net.stages):
                mirror = tuple([last - k for k in reversed(net.upstream(stage))])
                self.assertEqual(other.downstream(last - stage), mirror)

    def test_other_nets_of_many_nets(self):
        for net in random_nets():
            before = (net.stages, net.channels, net.slots, net.summary())
            capacities = [number + 1 for number in range(len(net.channels))]
            other = net.resized(*capacities)
            pairs = [row[:2] for row in net.channels]
            self.assertEqual([row[:2] for row in other.channels], pairs)
            self.assertEqual([row[2] for row in other.channels], capacities)
            self.assertEqual((other.stages, type(other)), (net.stages, type(net)))
            for channel in range(len(net.channels)):
                left = (*net.channels[:channel], *net.channels[channel + 1:])
                self.assertEqual(net.without(channel), Pipeline(net.stages, *left))
            self.assertEqual((net.stages, net.channels, net.slots, net.summary()), before)


class TestEquality(NetCase):
    """Point 7: which nets are equal."""

    def test_equal_nets(self):
        net = Pipeline(3, (0, 1, 2), (1, 2, 2))
        for other in (Pipeline(3, (1, 2, 2), (0, 1, 2)), Pipeline(3, (1, 2), (0, 1), capacity=2),
                      Pipeline(3, (0, 1), (1, 2, 2), capacity=2), Pipeline.row(2, 2), net):
            self.assertTrue(net == other)
            self.assertFalse(net != other)
        self.assertTrue(Ring(1, 2, 3) == Ring(1, 2, 3))
        self.assertTrue(Pipeline(2) == Pipeline(2, capacity=9))

    def test_different_nets(self):
        net = Pipeline(3, (0, 1), (1, 2))
        for other in (Pipeline(4, (0, 1), (1, 2)), Pipeline(3, (0, 1)), Pipeline(3, (0, 1), (0, 2)),
                      Pipeline(3, (0, 1), (1, 2, 2)), Pipeline(3), Ring(1, 1, 1)):
            self.assertFalse(net == other)
            self.assertTrue(net != other)
        self.assertFalse(Ring(1, 2, 3) == Ring(1, 3, 2))
        self.assertFalse(Ring(1, 1, 1) == Ring(1, 1, 1, 1))
        self.assertFalse(Ring(1, 1, 1) == Ring(1, 1, 1).without(0))
        self.assertFalse(Pipeline(2) == Pipeline(3))

    def test_values_of_other_kinds(self):
        net = Pipeline.row(2, 1)
        for other in (None, True, 3, "net", net.channels, (net.stages, net.channels), [net], Pipeline):
            self.assertFalse(net == other)
            self.assertFalse(other == net)
            self.assertTrue(net != other)


class TestWholeProgram(NetCase):
    """Point 2, for nets."""

    def test_nothing_passed_is_changed(self):
        channels = [(2, 3), (0, 2, 5), (1, 2)]
        Pipeline(4, *channels, capacity=4)
        self.assertEqual(channels, [(2, 3), (0, 2, 5), (1, 2)])
        capacities = [2, 1, 3]
        Ring(*capacities).resized(*capacities)
        Pipeline.row(*capacities).resized(*capacities)
        self.assertEqual(capacities, [2, 1, 3])

    def test_an_error_changes_nothing(self):
        net = Pipeline.row(2, 1)
        for call in (lambda: net.resized(1), lambda: net.resized(1, 0), lambda: net.without(2),
                     lambda: net.upstream(3)):
            self.assertRaises((InvalidNet, NotFound), call)
            self.assertEqual(net, Pipeline.row(2, 1))

    def test_equal_calls_give_equal_results(self):
        for make in (lambda: Pipeline(4, (2, 3), (0, 2, 5), (1, 2)), lambda: Ring(2, 1, 3)):
            net, other = make(), make()
            for _ in range(2):
                self.assertEqual(net, other)
                self.assertEqual(net.summary(), other.summary())
                self.assertEqual(net.upstream(2), other.upstream(2))
                self.assertEqual(net.mirrored(), other.mirrored())
                self.assertEqual(net.without(1), other.without(1))

    def test_rows_of_results_are_tuples(self):
        for net in (Pipeline(1), Pipeline.row(2, 1), Ring(1, 1, 1)):
            for row in (net.channels, net.incoming(0), net.outgoing(0), net.upstream(0), net.downstream(0)):
                self.assertIs(type(row), tuple)
