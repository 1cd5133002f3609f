"""Evidence: what observations tell about unknown capacities.

Each observation tells whether something happened that happens with all great enough capacities, or
with none. That it happened gives each channel a least capacity. That it did not asks that at least
one capacity is smaller than it would have to be. So if any capacities fit, the least ones do.
"""

from withincall.capacity import drawn_loads, lasting_objections
from withincall.checks import check_number, check_product
from withincall.errors import Contradiction, TooLarge
from withincall.moves import check_log, check_move, side_of, state_behind
from withincall.nets import Net
from withincall.states import check_state

MOST_NOTED = 200


class Question:
    """Whether a move is allowed, or a target is reached, if the capacities are not known.

    The loads are those of the channels in question. If it is not possible, it is so for all capacities.
    """

    def __init__(self, loads, possible):
        self._loads = dict(loads)
        self._possible = possible

    def is_possible(self):
        """True if the move is allowed, or the target is reached, with great enough capacities."""
        return self._possible

    def load_of(self, channel):
        """The load of the channel if it is in question, otherwise a load that is never in the way."""
        return self._loads.get(channel, 0)

    def holds(self, capacities):
        """True if the move is allowed, or the target is reached, with these capacities."""
        return self._possible and all([load <= capacities[channel] for channel, load in self._loads.items()])

    def raised(self, capacities):
        """The capacities, raised to the loads where they are smaller."""
        return [max(capacity, self.load_of(channel)) for channel, capacity in enumerate(capacities)]

    def bounded_channels(self):
        """The channels in question for whose load a capacity can be too small, in ascending order."""
        return [channel for channel in sorted(self._loads) if self._loads[channel] > 1]


class Evidence:
    """Observations of a net whose capacities are unknown."""

    def __init__(self, net):
        self._net = net
        # The observations, each with its question.
        self._kept = []
        self._lows = [1] * len(net.channels)

    @property
    def noted(self):
        """The number of observations."""
        return len(self._kept)

    @property
    def is_known(self):
        """True if only one row of capacities fits."""
        spans = [self.span(channel) for channel in range(len(self._lows))]
        return all([low == high for low, high in spans])

    def note_move(self, state, move, *, allowed):
        """Add that the move was allowed in the state, or that it was not. Return the observation's number."""
        question = self._move_question(state, move)
        self._check_room(1)
        return self._note(("move", state, move, allowed), question)

    def note_reach(self, start, target, *, reached):
        """Add that the target was reached, or that it was not. Return the observation's number."""
        question = self._reach_question(start, target)
        self._check_room(1)
        return self._note(("reach", start, target, reached), question)

    def note_log(self, start, log):
        """Add every line of the log, or none if one raises an error. Return the state behind the last line."""
        check_state(self._net, start)
        check_log(self._net, log)
        self._check_room(len(log))
        longer = self.twin()
        state = start
        for stage, kind, word in log:
            move = (stage, kind)
            longer.note_move(state, move, allowed=word == "done")
            if word == "done":
                state = state_behind(state, move)
        self._take(longer)
        return state

    def observation(self, number):
        """The observation with this number."""
        check_number(number, len(self._kept))
        return self._kept[number][0]

    def span(self, channel):
        """The least and the greatest capacity of the channel in the capacities that fit."""
        check_number(channel, len(self._lows))
        raised = list(self._lows)
        raised[channel] = Net.MOST_CAPACITY
        # What must not hold, but would hold with the other capacities as small as possible.
        highs = [question.load_of(channel) - 1 for question in self._denied() if question.holds(raised)]
        return (self._lows[channel], min([Net.MOST_CAPACITY] + highs))

    def fits(self, *capacities):
        """True if every observation is true with these capacities."""
        # Raises the errors of the capacities.
        self._net.resized(*capacities)
        return all([question.holds(capacities) == observation[3] for observation, question in self._kept])

    def foretell(self, state, move):
        """Whether the move is allowed with the capacities that fit: "yes", "no" or "unknown"."""
        return self._answer(self._move_question(state, move))

    def foretell_reach(self, start, target):
        """Whether the target is reached with the capacities that fit: "yes", "no" or "unknown"."""
        return self._answer(self._reach_question(start, target))

    def fitting(self, most):
        """Yield all capacities that fit and are not greater than this, in ascending order."""
        check_product([most] * len(self._lows))
        # Beside the first capacities of a row, what must not hold and still may with the others.
        rows = [((), self._denied())]
        for channel in range(len(self._lows)):
            low, high = self.span(channel)
            rows = [((*row, capacity), [question for question in denied if question.load_of(channel) <= capacity])
                    for row, denied in rows for capacity in range(low, min(high, most) + 1)]
        for row, denied in rows:
            if not denied:
                yield row

    def twin(self):
        """Evidence with the same observations."""
        other = Evidence(self._net)
        other._take(self)
        return other

    def _move_question(self, state, move):
        """The question whether the move is allowed, from arguments that are checked here."""
        check_state(self._net, state)
        check_move(self._net, move)
        loads = []
        for channel in side_of(self._net, move):
            producer, consumer, _ = self._net.channels[channel]
            loads.append((channel, state[producer] - state[consumer]))
        return Question(loads, len(loads) > 0 and all([load > 0 for _, load in loads]))

    def _reach_question(self, start, target):
        """The question whether the target is reached, from arguments that are checked here."""
        check_state(self._net, start)
        check_state(self._net, target)
        return Question(drawn_loads(self._net, start, target), not lasting_objections(self._net, start, target))

    def _check_room(self, many):
        """Raise TooLarge if so many observations cannot be added."""
        size = len(self._kept) + many
        if size > MOST_NOTED:
            raise TooLarge(size, MOST_NOTED)

    def _note(self, observation, question):
        """Add the observation and return its number. Raise Contradiction if nothing fits any more."""
        number = len(self._kept)
        if observation[3] and not question.is_possible():
            raise Contradiction((number, ()))
        kept = self._kept + [(observation, question)]
        lows = question.raised(self._lows) if observation[3] else self._lows
        for other, (earlier, denied) in enumerate(kept):
            if not earlier[3] and denied.holds(lows):
                raise Contradiction((other, _supports(kept, denied)))
        self._kept = kept
        self._lows = lows
        return number

    def _take(self, other):
        """Take over the observations of the other object. Lists of observations are never changed."""
        self._kept = other._kept
        self._lows = other._lows

    def _denied(self):
        """What was refused or not reached though it is possible: the questions of these observations."""
        return [question for observation, question in self._kept
                if not observation[3] and question.is_possible()]

    def _answer(self, question):
        """The answer to the question that all observations together give."""
        if question.holds(self._lows):
            return "yes"
        raised = question.raised(self._lows)
        if not question.is_possible() or any([denied.holds(raised) for denied in self._denied()]):
            return "no"
        return "unknown"


def _supports(kept, denied):
    """For each bounded channel of a denied question the number of an observation that shows its capacity."""
    found = []
    for channel in denied.bounded_channels():
        shown = [number for number, (observation, question) in enumerate(kept)
                 if observation[3] and question.load_of(channel) >= denied.load_of(channel)]
        found.append((channel, shown[0]))
    return tuple(found)
