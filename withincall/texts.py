"""Texts: the written forms of nets, states and moves, and the channel table."""

from withincall.checks import is_between
from withincall.errors import InvalidText
from withincall.moves import check_move
from withincall.nets import LEAST_RING, Net, Pipeline, Ring, has_circle
from withincall.states import check_state, conditions, loads

# No number of a written form has more digits. Longer ones are never converted: Python refuses
# to convert very long ones.
MOST_DIGITS = 3
SIGNS = {"advance": "+", "rollback": "-"}
KINDS_BY_SIGN = {"+": "advance", "-": "rollback"}


def write_net(net):
    """The written form of the net."""
    word = "ring" if net.is_ring() else "pipeline"
    rows = [f"{producer} > {consumer} : {capacity}" for producer, consumer, capacity in net.channels]
    return "\n".join([f"{word} {net.stages}"] + rows)


def write_state(net, state):
    """The written form of the state."""
    check_state(net, state)
    return " ".join([str(counter) for counter in state])


def write_moves(net, moves):
    """The written form of the moves, whether they are allowed or not."""
    for move in moves:
        check_move(net, move)
    return " ".join([f"{SIGNS[kind]}{stage}" for stage, kind in moves])


def read_net(text):
    """The net that was written. Raise InvalidText with the first line that is bad."""
    lines = text.split("\n")
    word, stages = _read_head(lines[0])
    if word == "ring":
        return _read_ring(stages, lines)
    return _read_pipeline(stages, lines)


def read_state(net, text):
    """The state that was written. Raise InvalidText if it is none of the net."""
    state = tuple([_number(word, 0, Net.MOST_COUNTER) for word in text.split(" ")])
    if len(state) != net.stages or None in state:
        raise InvalidText(1)
    return state


def read_moves(net, text):
    """The moves that were written. Raise InvalidText if they are none of the net."""
    if text == "":
        return ()
    moves = []
    for word in text.split(" "):
        stage = _number(word[1:], 0, net.stages - 1)
        if stage is None or word[0] not in KINDS_BY_SIGN:
            raise InvalidText(1)
        moves.append((stage, KINDS_BY_SIGN[word[0]]))
    return tuple(moves)


def channel_table(net, state):
    """The channels with their loads and their conditions in the state, a line for each one."""
    rows = [f"counters {write_state(net, state)}"]
    amounts = loads(net, state)
    words = conditions(net, state)
    for number, (producer, consumer, capacity) in enumerate(net.channels):
        ends = f"{number:>3}  {producer:>2} > {consumer:<2}"
        rows.append(f"{ends}  {amounts[number]:>4} of {capacity:<3}  {words[number]}")
    return "\n".join(rows)


def _number(word, low, high):
    """The number from low to high that is written so, or None."""
    if not word.isascii() or not word.isdecimal() or len(word) > MOST_DIGITS:
        return None
    if word[0] == "0" and word != "0":
        return None
    number = int(word)
    return number if is_between(number, low, high) else None


def _read_head(line):
    """The kind and the number of stages that the first line tells."""
    word, _, digits = line.partition(" ")
    if word not in ("pipeline", "ring"):
        raise InvalidText(1)
    stages = _number(digits, LEAST_RING if word == "ring" else 1, Net.MOST_STAGES)
    if stages is None:
        raise InvalidText(1)
    return word, stages


def _read_channel(stages, line):
    """The channel between two stages that the line tells, or None."""
    words = line.split(" ")
    if len(words) != 5 or words[1] != ">" or words[3] != ":":
        return None
    ends = [_number(word, 0, stages - 1) for word in (words[0], words[2])]
    capacity = _number(words[4], 1, Net.MOST_CAPACITY)
    if None in ends or ends[0] == ends[1] or capacity is None:
        return None
    return (*ends, capacity)


def _read_pipeline(stages, lines):
    """The pipeline with this number of stages, from all lines of its text."""
    channels = []
    for at, line in enumerate(lines[1:]):
        channel = _read_channel(stages, line)
        if channel is None or at == Net.MOST_CHANNELS:
            raise InvalidText(at + 2)
        if channels and channel[:2] <= channels[-1][:2]:
            raise InvalidText(at + 2)
        channels.append(channel)
        if has_circle(channels):
            raise InvalidText(at + 2)
    return Pipeline(stages, *channels)


def _read_ring(stages, lines):
    """The ring with this number of stages, from all lines of its text."""
    capacities = []
    for at, line in enumerate(lines[1:]):
        channel = _read_channel(stages, line)
        if channel is None or channel[:2] != (at, (at + 1) % stages):
            raise InvalidText(at + 2)
        capacities.append(channel[2])
    if len(capacities) < stages:
        raise InvalidText(len(lines) + 1)
    return Ring(*capacities)
