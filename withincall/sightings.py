"""Sightings: states that somebody noted one after another, some of them perhaps wrongly."""

from withincall.errors import Unreachable
from withincall.reach import all_objections, moves_between
from withincall.states import check_state


def first_break(net, *sightings):
    """The position of the first sighting that is not reached from the one before it, or None."""
    _check_sightings(net, sightings)
    return _first_break(net, sightings)


def longest_story(net, *sightings):
    """The positions of as many sightings as possible that agree; of several the first ones."""
    _check_sightings(net, sightings)
    many = len(sightings)
    lengths = [1] * many
    nexts = [None] * many
    for at in reversed(range(many)):
        for later in range(at + 1, many):
            # Only a longer story counts, so of equally long ones the first is kept.
            if lengths[later] >= lengths[at] and not all_objections(net, sightings[at], sightings[later]):
                lengths[at] = lengths[later] + 1
                nexts[at] = later
    return _chain(lengths, nexts)


def story_cost(net, *sightings):
    """The least number of moves through all sightings. Raise Unreachable if they do not agree."""
    _check_sightings(net, sightings)
    broken = _first_break(net, sightings)
    if broken is not None:
        raise Unreachable(all_objections(net, sightings[broken - 1], sightings[broken])[0])
    return sum([moves_between(sightings[at - 1], sightings[at]) for at in range(1, len(sightings))])


def _check_sightings(net, sightings):
    """Raise InvalidState for the first sighting that is no state of the net."""
    for sighting in sightings:
        check_state(net, sighting)


def _first_break(net, sightings):
    """The position of the first sighting that is not reached from the one before it, or None."""
    for at in range(1, len(sightings)):
        if all_objections(net, sightings[at - 1], sightings[at]):
            return at
    return None


def _chain(lengths, nexts):
    """The positions from the first one with the greatest length on, each one's next behind it."""
    if not lengths:
        return ()
    found = [lengths.index(max(lengths))]
    while nexts[found[-1]] is not None:
        found.append(nexts[found[-1]])
    return tuple(found)
