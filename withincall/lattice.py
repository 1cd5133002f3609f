"""Chosen states: those of a box that are reached from all starts and from which a goal is reached.

What is asked of a chosen state is put into two forms. A mark bounds the counter of one stage, from
above or from below. A link leads a bound on from stage to stage: the link (first, second, more,
turn, other) says that if the first stage's counter is at most h, the second one's is at most
h + more if h < turn, and otherwise at most the greater one of h + more and other. The chosen states
are those that all marks and links allow. So following the links from the marks gives the greatest
chosen state, or else a chain that shows that there is none.
"""

from withincall.boxes import Box, check_box
from withincall.checks import is_between
from withincall.errors import InvalidNet, NoState
from withincall.states import check_state

REASONS_ABOVE = ("window", "source", "jammed", "range", "goal sink", "goal owing")
REASONS_BELOW = ("window", "sink", "jammed", "range", "goal source", "goal owing")
CHANNEL_REASONS = ("jammed", "goal owing")
GOAL_REASONS = ("goal source", "goal sink", "goal owing")
SOURCE_REASONS = ("source", "goal source")
# Greater than every bound: a link that would turn only there never turns.
NEVER = 1000000


class Wanted:
    """What the chosen states have to meet, as marks and links."""

    def __init__(self, net, box, starts, goal, clean):
        self._net = net
        self._box = box
        self._starts = starts
        self._goal = goal
        self._clean = clean

    def marks(self, above):
        """All marks that bound from above, or all that bound from below."""
        stages = self._net.stages
        channels = len(self._net.channels)
        found = []
        for reason in REASONS_ABOVE if above else REASONS_BELOW:
            for number in range(channels if reason in CHANNEL_REASONS else stages):
                for which in [None] + list(range(len(self._starts))):
                    mark = (reason, number, which)
                    if self.mark_bound(mark, above) is not None:
                        found.append(mark)
        return found

    def mark_bound(self, mark, above):
        """The stage that the mark bounds, and the bound. None if the value is no such mark."""
        if not isinstance(mark, tuple) or len(mark) != 3 or not isinstance(mark[0], str):
            return None
        reason, number, which = mark
        if reason not in (REASONS_ABOVE if above else REASONS_BELOW):
            return None
        counters = self._counters_meant(reason, which, above)
        if counters is None:
            return None
        if reason in CHANNEL_REASONS:
            return _channel_bound(self._net, counters, reason, number, above)
        return _stage_bound(self._net, counters, reason, number, above)

    def steps(self):
        """All steps by which a bound may be led on."""
        rules = list(range(len(self._starts))) + ["clean", "goal"]
        tried = [(channel, rule) for channel in range(len(self._net.channels)) for rule in rules]
        return [step for step in tried if self.step_link(step) is not None]

    def step_link(self, step):
        """The link that the step follows. None if the value is no step or is not allowed."""
        if not isinstance(step, tuple) or len(step) != 2:
            return None
        number, rule = step
        if not is_between(number, 0, len(self._net.channels) - 1):
            return None
        channel = self._net.channels[number]
        if isinstance(rule, str):
            return self._word_link(channel, rule)
        if not is_between(rule, 0, len(self._starts) - 1):
            return None
        return _start_link(channel, self._starts[rule])

    def _counters_meant(self, reason, which, above):
        """The counters of which a mark with this reason speaks, or None."""
        if reason == "window" and which is None:
            return self._box.highs if above else self._box.lows
        if reason in GOAL_REASONS and which is None:
            return self._goal
        if reason == "window" or reason in GOAL_REASONS or not is_between(which, 0, len(self._starts) - 1):
            return None
        return self._starts[which]

    def _word_link(self, channel, rule):
        """The link of a step whose rule is a word, or None."""
        producer, consumer, capacity = channel
        if rule == "clean" and self._clean:
            return plain_link(producer, consumer, 0)
        if rule == "goal" and self._goal is not None:
            return (consumer, producer, capacity, self._goal[consumer], self._goal[producer])
        return None


class Caps:
    """Bounds from above, one for each stage, lowered until they agree with all links.

    A bound below its floor ends the work, since then no state is allowed. Without that, links that
    lead round to a lower bound would lower it for ever.
    """

    def __init__(self, bounds, floors, links):
        self.floors = floors
        self.links = links
        self._leading = [[] for _ in bounds]
        for number, link in enumerate(links):
            self._leading[link[0]].append(number)
        # The givers: for each stage whose bound came by a link, the number of the link.
        self.bounds, self.givers = self._lowered(bounds, list(range(len(bounds))))

    def short_stages(self):
        """The stages with a bound below its floor. If there is none, the bounds are a state."""
        return [stage for stage, bound in enumerate(self.bounds) if bound < self.floors[stage]]

    def capped(self, stage, bound):
        """The bounds if this bound holds for the stage, too."""
        bounds = list(self.bounds)
        bounds[stage] = min(bounds[stage], bound)
        return self._lowered(bounds, [stage])[0]

    def _lowered(self, bounds, changed):
        """The bounds that follow from these, of which some have changed, and the givers of new ones."""
        bounds = list(bounds)
        givers = {}
        while changed and all([bounds[stage] >= self.floors[stage] for stage in changed]):
            again = {}
            for stage in changed:
                for number in self._leading[stage]:
                    second = self.links[number][1]
                    bound = led_bound(self.links[number], bounds[stage])
                    if bound < bounds[second]:
                        bounds[second] = bound
                        givers[second] = number
                        again[second] = True
            changed = list(again)
        return bounds, givers


def greatest(net, box, *starts, goal=None, clean=False):
    """The greatest chosen state. Raise NoState if no state is chosen."""
    wanted = _checked_wanted(net, box, starts, goal, clean)
    return tuple(_caps(wanted).bounds)


def least(net, box, *starts, goal=None, clean=False):
    """The least chosen state. Raise NoState if no state is chosen."""
    wanted = _checked_wanted(net, box, starts, goal, clean)
    return tightened(_caps(wanted)).floors


def nearest(net, box, start, *, goal=None):
    """The chosen state that is nearest to the start. Raise NoState if no state is chosen."""
    wanted = _checked_wanted(net, box, (start,), goal, False)
    caps = tightened(_caps(wanted))
    return clamped(start, caps.floors, caps.bounds)


def why_none(net, box, *starts, goal=None, clean=False):
    """A certificate that no state is chosen, or None if a state is chosen."""
    wanted = _checked_wanted(net, box, starts, goal, clean)
    return _search(wanted)[1]


def is_certificate(net, certificate, box, *starts, goal=None, clean=False):
    """True if the value is a valid certificate that no state is chosen."""
    wanted = _checked_wanted(net, box, starts, goal, clean)
    if not isinstance(certificate, tuple) or len(certificate) != 3:
        return False
    top, steps, bottom = certificate
    above = wanted.mark_bound(top, True)
    below = wanted.mark_bound(bottom, False)
    if above is None or below is None or not isinstance(steps, tuple):
        return False
    stage, bound = above
    for step in steps:
        link = wanted.step_link(step)
        if link is None or link[0] != stage:
            return False
        stage = link[1]
        bound = led_bound(link, bound)
    return stage == below[0] and bound < below[1]


def reached_caps(net, start):
    """The caps of the states that are reached from a checked start. The start itself is one."""
    return tightened(_caps(Wanted(net, Box.full(net.stages), (start,), None, False)))


def tightened(caps):
    """The same caps with the least state that they allow as the floors. They must allow a state."""
    return Caps(caps.bounds, negated(caps_below(caps).bounds), caps.links)


def caps_below(caps):
    """The caps of the numbers below 0: what bounds these from above bounds the counters from below."""
    return Caps(negated(caps.floors), negated(caps.bounds), [_turned(link) for link in caps.links])


def plain_link(first, second, more):
    """The link by which the second counter is at most the first one and so many more."""
    return (first, second, more, NEVER, -NEVER)


def led_bound(link, bound):
    """The bound to which the link leads this bound."""
    _, _, more, turn, other = link
    return bound + more if bound < turn else max(bound + more, other)


def negated(numbers):
    """The numbers below 0, as a tuple."""
    return tuple([-number for number in numbers])


def clamped(state, lows, highs):
    """The state with each counter raised or lowered to its limits."""
    return tuple([min(max(counter, low), high) for counter, low, high in zip(state, lows, highs)])


def _checked_wanted(net, box, starts, goal, clean):
    """What the chosen states have to meet, from arguments that are checked here."""
    check_box(net, box)
    for start in starts:
        check_state(net, start)
    if goal is not None:
        check_state(net, goal)
        if net.is_ring():
            raise InvalidNet("ring", None)
    return Wanted(net, box, starts, goal, clean)


def _stage_bound(net, counters, reason, stage, above):
    """The stage and its bound if the reason holds for this stage, otherwise None."""
    if not is_between(stage, 0, net.stages - 1):
        return None
    if reason == "window":
        return (stage, counters[stage])
    if reason == "range":
        return (stage, max(counters) if above else min(counters)) if net.is_ring() else None
    channels = net.incoming(stage) if reason in SOURCE_REASONS else net.outgoing(stage)
    return None if channels else (stage, counters[stage])


def _channel_bound(net, counters, reason, channel, above):
    """The bounded end of the channel and its bound if the reason holds for it, otherwise None."""
    if not is_between(channel, 0, len(net.channels) - 1):
        return None
    producer, consumer, capacity = net.channels[channel]
    amount = counters[producer] - counters[consumer]
    jammed = reason == "jammed"
    if not (amount > capacity if jammed else amount < 0):
        return None
    # The load of a jammed channel cannot fall behind the start. The load of a channel that is
    # owing in the goal cannot have been higher before.
    stage = consumer if jammed == above else producer
    return (stage, counters[stage])


def _start_link(channel, start):
    """The link from the producer to the consumer if the channel is not jammed in the start."""
    producer, consumer, capacity = channel
    if start[producer] - start[consumer] > capacity:
        return None
    return (producer, consumer, 0, start[producer], start[consumer])


def _turned(link):
    """The link that says the same of the numbers below 0."""
    first, second, more, turn, other = link
    return (second, first, more, -other, -turn)


def _tightest(wanted, above):
    """For each stage the least bound from above, or the greatest from below, behind its mark."""
    found = {}
    for mark in wanted.marks(above):
        stage, bound = wanted.mark_bound(mark, above)
        if stage not in found or (bound < found[stage][1] if above else bound > found[stage][1]):
            found[stage] = (mark, bound)
    return [found[stage] for stage in sorted(found)]


def _search(wanted):
    """The caps of the chosen states, and None or a certificate that there are none."""
    tops = _tightest(wanted, True)
    bottoms = _tightest(wanted, False)
    steps = wanted.steps()
    links = [wanted.step_link(step) for step in steps]
    caps = Caps([bound for _, bound in tops], [bound for _, bound in bottoms], links)
    short = caps.short_stages()
    if not short:
        return caps, None
    chain = []
    stage = short[0]
    while stage in caps.givers:
        number = caps.givers[stage]
        chain.append(steps[number])
        stage = links[number][0]
    return caps, (tops[stage][0], tuple(reversed(chain)), bottoms[short[0]][0])


def _caps(wanted):
    """The caps of the chosen states. Raise NoState if there are none."""
    caps, certificate = _search(wanted)
    if certificate is not None:
        raise NoState(certificate)
    return caps
