"""Words that are alike up to turning."""

from braidcomb.counts import profile
from braidcomb.summits import summit, summits_reached
from braidcomb.words import trimmed, turned


def alike(n, one, other, most=24):
    """Tell by which word the other word is alike to the one, or by what it is seen that there is none."""
    if profile(n, one) != profile(n, other):
        return ("counts",)
    reached = summits_reached(n, one, most)
    goal = summit(n, other)
    for each in reached:
        if each[0] == goal[0]:
            # The one word leads to the form they share, and from there the way of the other word is gone back.
            return ("alike", trimmed(each[1] + turned(goal[1])))
    return ("forms",)
