"""Nets: stages, and the channels from stage to stage."""

from withincall.checks import check_number, is_between
from withincall.errors import InvalidNet

LEAST_RING = 3


class Net:
    """What pipelines and rings have in common. Callers make one of these two."""

    MOST_STAGES = 40
    MOST_CHANNELS = 120
    MOST_CAPACITY = 999
    MOST_COUNTER = 999

    def __init__(self, stages, channels):
        self.stages = stages
        self.channels = tuple(sorted(channels))
        # Kept, because every question about a state asks for the channels of its stages.
        self._incoming = _numbers_at(stages, [channel[1] for channel in self.channels])
        self._outgoing = _numbers_at(stages, [channel[0] for channel in self.channels])

    @staticmethod
    def is_capacity(value):
        """True if the value can be the capacity of a channel."""
        return is_between(value, 1, Net.MOST_CAPACITY)

    @property
    def slots(self):
        """The sum of the capacities."""
        return sum([capacity for _, _, capacity in self.channels])

    def incoming(self, stage):
        """The numbers of the channels that lead to the stage."""
        check_number(stage, self.stages)
        return self._incoming[stage]

    def outgoing(self, stage):
        """The numbers of the channels that lead from the stage."""
        check_number(stage, self.stages)
        return self._outgoing[stage]

    def upstream(self, stage):
        """The other stages from which a path of channels leads to the stage."""
        check_number(stage, self.stages)
        links = [(consumer, producer) for producer, consumer, _ in self.channels]
        return _others_behind(stage, links)

    def downstream(self, stage):
        """The other stages to which a path of channels leads from the stage."""
        check_number(stage, self.stages)
        links = [(producer, consumer) for producer, consumer, _ in self.channels]
        return _others_behind(stage, links)

    def without(self, channel):
        """The pipeline with the same stages and all other channels."""
        check_number(channel, len(self.channels))
        others = [*self.channels[:channel], *self.channels[channel + 1:]]
        return Pipeline(self.stages, *others)

    def summary(self):
        """How many stages, channels and slots the net has, as a text."""
        return f"{self.stages} stages, {len(self.channels)} channels, {self.slots} slots"

    def __eq__(self, other):
        # The channels of a ring form a circle and those of a pipeline never do, so nets with
        # the same channels are of the same kind.
        return isinstance(other, Net) and self.stages == other.stages and self.channels == other.channels


class Pipeline(Net):
    """A net without a circle."""

    def __init__(self, stages, *channels, capacity=1):
        if not is_between(stages, 1, Net.MOST_STAGES):
            raise InvalidNet("stages", None)
        if len(channels) > Net.MOST_CHANNELS:
            raise InvalidNet("limit", None)
        _check_channels(stages, channels)
        if not Net.is_capacity(capacity):
            raise InvalidNet("capacity", None)
        triples = [_with_capacity(channel, capacity) for channel in channels]
        if has_circle(triples):
            raise InvalidNet("circle", None)
        super().__init__(stages, triples)

    @classmethod
    def row(cls, *capacities):
        """The pipeline that leads from each stage to the next one."""
        stages = len(capacities) + 1
        # The positions of the channels are those of the capacities, so the errors are right.
        channels = [(stage, stage + 1, capacity) for stage, capacity in enumerate(capacities)]
        return cls(stages, *channels)

    def is_ring(self):
        """Whether the net is a ring."""
        return False

    def resized(self, *capacities):
        """The same pipeline with other capacities, in the order of the channels."""
        _check_count(self, capacities)
        ends = [(producer, consumer) for producer, consumer, _ in self.channels]
        channels = [(*pair, capacity) for pair, capacity in zip(ends, capacities)]
        return Pipeline(self.stages, *channels)

    def mirrored(self):
        """The pipeline with its channels turned round and its stages numbered from the other end."""
        channels = _turned_channels(self)
        return Pipeline(self.stages, *channels)

    def summary(self):
        """The kind of the net, and what all nets tell of themselves."""
        return "pipeline of " + super().summary()


class Ring(Net):
    """A net in which one circle joins all stages."""

    def __init__(self, *capacities):
        stages = len(capacities)
        if stages < LEAST_RING or stages > Net.MOST_STAGES:
            raise InvalidNet("stages", None)
        for position, capacity in enumerate(capacities):
            if not Net.is_capacity(capacity):
                raise InvalidNet("capacity", position)
        channels = [(stage, (stage + 1) % stages, capacity) for stage, capacity in enumerate(capacities)]
        super().__init__(stages, channels)

    def is_ring(self):
        """Whether the net is a ring."""
        return True

    def resized(self, *capacities):
        """The same ring with other capacities, in the order of the channels."""
        _check_count(self, capacities)
        return Ring(*capacities)

    def mirrored(self):
        """The ring with its channels turned round and its stages numbered from the other end."""
        capacities = [capacity for _, _, capacity in sorted(_turned_channels(self))]
        return Ring(*capacities)

    def summary(self):
        """The kind of the net, and what all nets tell of themselves."""
        return "ring of " + super().summary()


def has_circle(channels):
    """True if a path of these channels leads from a stage back to itself."""
    left = channels
    while left:
        fed = {consumer: True for _, consumer, _ in left}
        # A channel that leads from a stage that nothing feeds is on no circle.
        kept = [channel for channel in left if channel[0] in fed]
        if len(kept) == len(left):
            return True
        left = kept
    return False


def _numbers_at(stages, ends):
    """For each stage, the numbers of the channels that have this end there."""
    numbers = [[] for _ in range(stages)]
    for number, stage in enumerate(ends):
        numbers[stage].append(number)
    return tuple([tuple(row) for row in numbers])


def _others_behind(first, links):
    """The stages, other than the first, behind one or more links from it, in ascending order."""
    found = {first: True}
    waiting = [first]
    while waiting:
        stage = waiting.pop()
        for start, end in links:
            if start == stage and end not in found:
                found[end] = True
                waiting.append(end)
    return tuple([stage for stage in sorted(found) if stage != first])


def _joins_two_stages(stages, channel):
    """True if the value is a pair or a triple that begins with two different stages."""
    if not isinstance(channel, tuple) or len(channel) not in (2, 3):
        return False
    ends = channel[:2]
    if not all([is_between(end, 0, stages - 1) for end in ends]):
        return False
    return ends[0] != ends[1]


def _check_channels(stages, channels):
    """Raise InvalidNet for the first given channel that is wrong."""
    earlier = {}
    for position, channel in enumerate(channels):
        if not _joins_two_stages(stages, channel):
            raise InvalidNet("channel", position)
        if len(channel) == 3 and not Net.is_capacity(channel[2]):
            raise InvalidNet("capacity", position)
        if channel[:2] in earlier:
            raise InvalidNet("duplicate", position)
        earlier[channel[:2]] = True


def _with_capacity(channel, capacity):
    """The channel as a triple; one that is given as a pair has this capacity."""
    own = channel[2] if len(channel) == 3 else capacity
    return (channel[0], channel[1], own)


def _check_count(net, capacities):
    """Raise InvalidNet unless there is one capacity for each channel of the net."""
    if len(capacities) != len(net.channels):
        raise InvalidNet("count", None)


def _turned_channels(net):
    """The channels turned round, with the stages numbered from the other end."""
    last = net.stages - 1
    return [(last - consumer, last - producer, capacity) for producer, consumer, capacity in net.channels]
