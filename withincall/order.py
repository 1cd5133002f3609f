"""The order of the moves: which steps of the plans to a target need which others."""

from withincall.checks import check_product, is_between
from withincall.errors import NotFound
from withincall.reach import plan_length


class MoveOrder:
    """The steps from a start to a target that is reached from it.

    A step (v, i) is the i-th move that the stage v makes. All plans are made of the same steps.
    """

    def __init__(self, net, start, target):
        self._total = plan_length(net, start, target)
        kinds = ["advance" if wanted > counter else "rollback" for counter, wanted in zip(start, target)]
        self._moves = list(enumerate(kinds))
        self._counts = [abs(wanted - counter) for counter, wanted in zip(start, target)]
        self._needs = _direct_needs(net, start, target)
        users = {step: [] for step in self._needs}
        for step, needed in self._needs.items():
            for other in needed:
                users[other].append(step)
        self._earliest = _levels(self._needs, users)
        self._depth = max(list(self._earliest.values()), default=0)
        levels = _levels(users, self._needs)
        self._latest = {step: self._depth + 1 - levels[step] for step in levels}

    @property
    def total(self):
        """The number of steps."""
        return self._total

    @property
    def depth(self):
        """The least number of rounds."""
        return self._depth

    def steps(self):
        """All steps in ascending order."""
        return tuple(sorted(self._needs))

    def needs(self, step):
        """The steps that the step needs directly, in ascending order."""
        self._check_step(step)
        return tuple(sorted(self._needs[step]))

    def reason(self, earlier, later):
        """Why the later step needs the earlier one directly, or None if it does not."""
        self._check_step(earlier)
        self._check_step(later)
        return self._needs[later].get(earlier)

    def comes_before(self, first, second):
        """True if the first step comes before the second one in every plan."""
        self._check_step(first)
        self._check_step(second)
        found = {}
        waiting = [second]
        while waiting:
            user = waiting.pop()
            for step in self._needs[user]:
                if step not in found:
                    found[step] = True
                    waiting.append(step)
        return first in found

    def round_of(self, step):
        """The earliest round in which the step can stand."""
        self._check_step(step)
        return self._earliest[step]

    def latest_round(self, step):
        """The latest round in which the step can stand if there are as few rounds as possible."""
        self._check_step(step)
        return self._latest[step]

    def rounds(self):
        """As few rounds as possible, with each step in its earliest one."""
        found = [[] for _ in range(self._depth)]
        for step in self.steps():
            found[self._earliest[step] - 1].append(step)
        return tuple([tuple(row) for row in found])

    def critical_chain(self):
        """As many steps as there are rounds, each of which needs the one before it."""
        chain = []
        among = self.steps()
        for number in reversed(range(1, self._depth + 1)):
            chain.append([step for step in among if self._earliest[step] == number][0])
            among = self.needs(chain[-1])
        return tuple(reversed(chain))

    def plans(self):
        """Yield all plans in ascending order, as moves."""
        if self._total == 0:
            yield ()
        made = [0] * len(self._counts)
        row = []
        # For each place of the row up to the next one, the stages that have yet to stand there.
        options = [self._ready_stages(made)]
        while options:
            if options[-1]:
                stage = options[-1].pop()
                made[stage] += 1
                row.append(stage)
                options.append(self._ready_stages(made))
                if len(row) == self._total:
                    yield tuple([self._moves[other] for other in row])
            else:
                options.pop()
                if row:
                    stage = row.pop()
                    made[stage] -= 1

    def number_of_plans(self):
        """How many plans there are. Raise TooLarge if there are too many cases to go through."""
        check_product([count + 1 for count in self._counts])
        ways = {tuple([0] * len(self._counts)): 1}
        for _ in range(self._total):
            found = {}
            for made, many in ways.items():
                for stage in self._ready_stages(made):
                    after = (*made[:stage], made[stage] + 1, *made[stage + 1:])
                    found[after] = found.get(after, 0) + many
            ways = found
        return sum(list(ways.values()))

    def is_order(self, steps):
        """True if the value is a tuple of all steps in which each one stands behind all that it needs."""
        return isinstance(steps, tuple) and self.are_rounds(tuple([(step,) for step in steps]))

    def are_rounds(self, rounds):
        """True if the value is a tuple of valid rounds."""
        if not isinstance(rounds, tuple):
            return False
        done = {}
        for row in rounds:
            if not isinstance(row, tuple) or not row or not all([self._may_follow(step, done) for step in row]):
                return False
            for step in row:
                if step in done:
                    return False
                done[step] = True
        return len(done) == self._total

    def _is_step(self, value):
        """True if the value is a step."""
        if not isinstance(value, tuple) or len(value) != 2:
            return False
        stage, number = value
        return is_between(stage, 0, len(self._counts) - 1) and is_between(number, 1, self._counts[stage])

    def _check_step(self, value):
        """Raise NotFound if the value is not a step."""
        if not self._is_step(value):
            raise NotFound(value)

    def _may_follow(self, value, done):
        """True if the value is a step and all that it needs is done."""
        return self._is_step(value) and all([step in done for step in self._needs[value]])

    def _ready_stages(self, made):
        """The stages, the last one first, whose next step needs no more than the steps that are made."""
        found = []
        for stage in reversed(range(len(self._counts))):
            step = (stage, made[stage] + 1)
            if step in self._needs and all([made[other] >= number for other, number in self._needs[step]]):
                found.append(stage)
        return found


def _direct_needs(net, start, target):
    """For each step the steps that it needs directly, with the reasons."""
    changes = [wanted - counter for counter, wanted in zip(start, target)]
    needs = {(stage, number): _own_need(stage, number)
             for stage, change in enumerate(changes) for number in range(1, abs(change) + 1)}
    for channel, (producer, consumer, capacity) in enumerate(net.channels):
        slots = (start[producer] - start[consumer], capacity)
        if changes[producer] > 0 and changes[consumer] > 0:
            _add_needs(needs, channel, producer, (consumer, changes[consumer]), slots)
        elif changes[producer] < 0 and changes[consumer] < 0:
            _add_needs(needs, channel, consumer, (producer, -changes[producer]), slots)
    return needs


def _own_need(stage, number):
    """What the step needs of its own stage, with the reason."""
    return {(stage, number - 1): ("own", stage)} if number > 1 else {}


def _add_needs(needs, channel, giver, taker, slots):
    """Add what the steps of two stages need of each other, of which the taker is given with its steps.

    Each step of the giver raises the load of the channel, and each step of the taker lowers it.
    """
    load, capacity = slots
    for number in range(1, taker[1] + 1):
        step = (taker[0], number)
        item = (giver, number - load)
        if item in needs:
            needs[step][item] = ("item", channel)
        jamming = (giver, number - load + capacity)
        if jamming in needs:
            needs[jamming][step] = ("room", channel)


def _levels(needs, users):
    """For each step one more than the greatest level of the steps that it needs, or 1 if it needs none."""
    found = {}
    missing = {step: len(needs[step]) for step in needs}
    level = 1
    ready = [step for step in needs if missing[step] == 0]
    while ready:
        after = []
        for step in ready:
            found[step] = level
            for user in users[step]:
                missing[user] -= 1
                if missing[user] == 0:
                    after.append(user)
        ready = after
        level += 1
    return found
