"""The desk: moves are made and undone, deeds are remembered, and targets are watched."""

from withincall.checks import check_number, is_between
from withincall.errors import InvalidLimit, InvalidName, NothingToRedo, NothingToUndo, UnknownName
from withincall.lattice import nearest
from withincall.moves import make, run_moves
from withincall.reach import first_moves, plan_length, reaches
from withincall.recovery import cheapest
from withincall.states import check_state
from withincall.texts import channel_table

MOST_LIMIT = 1000
LONGEST_NAME = 12


class Deed:
    """An entry of the history: a deed with what was before it, what is behind it, and its moves."""

    def __init__(self, name, before, behind, many):
        self.name = name
        self.before = before
        self.behind = behind
        self.many_moves = many


class Desk:
    """A net and a state with the deeds that led to them."""

    def __init__(self, net, state, *, limit=100):
        self._net = net
        self._state = check_state(net, state)
        self._limit = _checked_limit(limit)
        self._done = []
        # The deed that was undone last stands last.
        self._undone = []
        self._moves_made = 0
        self._targets = {}

    @property
    def net(self):
        """The present net."""
        return self._net

    @property
    def state(self):
        """The present state."""
        return self._state

    @property
    def moves_made(self):
        """The number of moves made by the deeds that are in effect."""
        return self._moves_made

    @property
    def limit(self):
        """The most entries of the history."""
        return self._limit

    @limit.setter
    def limit(self, value):
        self._limit = _checked_limit(value)
        self._drop_oldest()

    def advance(self, stage):
        """Make one advance and return the new state. Raise NotFound or Blocked."""
        return self._move("advance", stage)

    def rollback(self, stage):
        """Make one rollback and return the new state. Raise NotFound or Blocked."""
        return self._move("rollback", stage)

    def run(self, *moves):
        """Make the moves and return the new state. Raise InvalidMove or Blocked if one cannot be made."""
        return self._come_to("run", run_moves(self._net, self._state, moves), len(moves))

    def go(self, target):
        """Make the moves of the plan to the target. Raise Unreachable or TooLarge."""
        return self._go("go", target)

    def enter(self, box):
        """Go to the nearest state in the box. Raise NoState or TooLarge."""
        return self._go("enter", nearest(self._net, box, self._state))

    def recover(self):
        """Go to the greatest cheapest recovery. Raise Unrecoverable or TooLarge."""
        return self._go("recover", cheapest(self._net, self._state))

    def retune(self, channel, capacity):
        """Give a channel another capacity and return the new net. Raise NotFound or InvalidNet."""
        check_number(channel, len(self._net.channels))
        capacities = [own for _, _, own in self._net.channels]
        capacities[channel] = capacity
        # The position of a capacity is the number of its channel, so the errors are right.
        self._enter("retune", self._net.resized(*capacities), self._state, 0)
        return self._net

    def undo(self):
        """Take back the last entry of the history and return its name."""
        if not self._done:
            raise NothingToUndo()
        deed = self._done.pop()
        self._undone.append(deed)
        self._net, self._state = deed.before
        self._moves_made -= deed.many_moves
        return deed.name

    def redo(self):
        """Do the deed again that was undone last, and return its name."""
        if not self._undone:
            raise NothingToRedo()
        deed = self._undone.pop()
        self._done.append(deed)
        self._net, self._state = deed.behind
        self._moves_made += deed.many_moves
        self._drop_oldest()
        return deed.name

    def history(self):
        """The names of the entries, the oldest one first."""
        return tuple([deed.name for deed in self._done])

    def set_limit(self, value):
        """Set the limit and return how many entries were dropped."""
        many = len(self._done)
        self.limit = value
        return many - len(self._done)

    def attempt(self, *moves, keep=False):
        """The state that the moves lead to and the channel table there. Only if asked, keep it."""
        state = run_moves(self._net, self._state, moves)
        if keep is True:
            self.run(*moves)
        return (state, channel_table(self._net, state))

    def table(self):
        """The channel table of the present net and state."""
        return channel_table(self._net, self._state)

    def watch(self, name, target):
        """Remember the target under the name and return its status. Raise InvalidName or InvalidState."""
        if not _is_name(name):
            raise InvalidName(name)
        self._targets[name] = check_state(self._net, target)
        return self._status(target)

    def unwatch(self, name):
        """Forget the name and return its target. Raise UnknownName."""
        target = self._watched(name)
        del self._targets[name]
        return target

    def status(self, name):
        """Where the target is seen from the present state: "here", "ahead" or "lost". Raise UnknownName."""
        return self._status(self._watched(name))

    def advice(self, name):
        """The first moves of the plans to the target. Raise UnknownName or Unreachable."""
        return first_moves(self._net, self._state, self._watched(name))

    def statuses(self):
        """The watched names, each with its target's status, in ascending order."""
        return tuple([(name, self._status(self._targets[name])) for name in sorted(self._targets)])

    def twin(self):
        """A desk that is like this one in everything."""
        other = Desk(self._net, self._state, limit=self._limit)
        other._done = list(self._done)
        other._undone = list(self._undone)
        other._moves_made = self._moves_made
        other._targets = dict(self._targets)
        return other

    def __contains__(self, target):
        return reaches(self._net, self._state, target)

    def _move(self, kind, stage):
        """Make one move of the stage."""
        check_number(stage, self._net.stages)
        return self._come_to(kind, make(self._net, self._state, (stage, kind)), 1)

    def _go(self, name, target):
        """Make the moves of the plan to the target. Raise Unreachable or TooLarge."""
        return self._come_to(name, target, plan_length(self._net, self._state, target))

    def _come_to(self, name, state, many):
        """Enter a deed that leads to the state by so many moves, and return the state."""
        self._enter(name, self._net, state, many)
        return self._state

    def _enter(self, name, net, state, many):
        """Enter a deed that leads to the net and the state, unless it changes nothing."""
        if net == self._net and state == self._state:
            return
        self._done.append(Deed(name, (self._net, self._state), (net, state), many))
        self._undone = []
        self._net = net
        self._state = state
        self._moves_made += many
        self._drop_oldest()

    def _drop_oldest(self):
        """Drop the oldest entries of the history if it has more than the limit."""
        self._done = self._done[-self._limit:]

    def _watched(self, name):
        """The target that is watched under the name. Raise UnknownName."""
        if name not in self._targets:
            raise UnknownName(name)
        return self._targets[name]

    def _status(self, target):
        """Where a target is seen from the present state."""
        if target == self._state:
            return "here"
        return "ahead" if reaches(self._net, self._state, target) else "lost"


def _checked_limit(value):
    """Return the value. Raise InvalidLimit if it cannot be the limit of a history."""
    if not is_between(value, 1, MOST_LIMIT):
        raise InvalidLimit(value)
    return value


def _is_name(value):
    """True if the value can be the name of a watched target."""
    if not isinstance(value, str) or not 1 <= len(value) <= LONGEST_NAME:
        return False
    return all(["a" <= letter <= "z" for letter in value])
