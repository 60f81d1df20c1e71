"""Plain bridges between plain states, and their numbers.

The choices of a plain bridge do not depend on each other: a beat may lie on any road that began ahead of it, or on
none, and the roads may get to the ends in any order. So the choices are the digits of the bridge's number, each one
with a base of its own.
"""

from throwskept.counts import power
from throwskept.errors import NoBridge


def leads(one, heights, other):
    """Return True if the heights are a plain bridge from the first state to the second one, otherwise False."""
    throwing = [beat for beat, height in enumerate(heights) if height]
    landing = list(one) + [beat + heights[beat] for beat in throwing]
    # Things land at each beat that throws and where the second state has them, once each, and nowhere else.
    return sorted(landing) == throwing + [len(heights) + at for at in other]


def plain_bridge_count(one, other, k):
    """Return how many plain bridges with k items lead from the first state to the second one."""
    begins = begins_of(one, k)
    # A thing of the first state that lands behind the bridge is not thrown by it, so the second state has it, too.
    if len(one) != len(other) or len(ends_of(one, other, k)) != len(begins):
        return 0
    count = 1
    # Gaps may be long; so they are not gone through beat by beat.
    for begun, gap in enumerate(gaps_of(begins, k)):
        count = count * power(begun + 1, gap)
    for base in bases_of_ends(begins):
        count = count * base
    return count


def plain_bridge_at(one, other, k, number):
    """Return the plain bridge with k items and the number."""
    if number < 0 or number >= plain_bridge_count(one, other, k):
        raise NoBridge("there is no plain bridge with this number")
    begins = begins_of(one, k)
    choices = choices_at(number, bases_of(begins, k))
    free = free_beats(one, k)
    heights = [0] * k
    # The last beat so far of each road.
    last = list(begins)
    for beat, road in zip(free, choices):
        if road:
            heights[last[road - 1]] = beat - last[road - 1]
            last[road - 1] = beat
    ends = ends_of(one, other, k)
    for beat, choice in zip(last, choices[len(free):]):
        heights[beat] = ends.pop(choice) - beat
    return heights


def plain_bridge_number(one, other, heights):
    """Return the number of a plain bridge."""
    if not leads(one, heights, other):
        raise NoBridge("the heights do not lead from the first state to the second one")
    number = 0
    bases = bases_of(begins_of(one, len(heights)), len(heights))
    for choice, base in zip(choices_of(one, heights), bases):
        number = number * base + choice
    return number


def begins_of(one, k):
    """Return the beats at which the roads begin, in ascending order."""
    return [at for at in one if at < k]


def ends_of(one, other, k):
    """Return the beats that are the ends of the roads, in ascending order."""
    landing = set(one)
    return [k + at for at in other if k + at not in landing]


def free_beats(one, k):
    """Return the beats below k at which no thing of the state lands, in ascending order."""
    landing = set(one)
    return [beat for beat in range(k) if beat not in landing]


def gaps_of(begins, k):
    """Return how many beats are ahead of the first road's begin, between each two begins, and behind the last one."""
    marks = [-1] + begins + [k]
    return [behind - ahead - 1 for ahead, behind in zip(marks, marks[1:])]


def bases_of_ends(begins):
    """Return for each road how many ends are left to it and the later roads."""
    return list(range(len(begins), 0, -1))


def bases_of(begins, k):
    """Return for each choice of a plain bridge with k items how many integers it may be, 0 being the least one."""
    bases = []
    for begun, gap in enumerate(gaps_of(begins, k)):
        bases.extend([begun + 1] * gap)
    return bases + bases_of_ends(begins)


def choices_at(number, bases):
    """Return the choices of the bridge with the number."""
    choices = []
    for base in reversed(bases):
        number, choice = divmod(number, base)
        choices.append(choice)
    return choices[::-1]


def choices_of(one, heights):
    """Return the choices of a plain bridge that begins in the state."""
    k = len(heights)
    roads = {}
    ends = []
    for road, begin in enumerate(begins_of(one, k), start=1):
        beat = begin
        while beat < k:
            roads[beat] = road
            beat += heights[beat]
        ends.append(beat)
    choices = [roads.get(beat, 0) for beat in free_beats(one, k)]
    left = sorted(ends)
    for end in ends:
        choices.append(left.index(end))
        left.remove(end)
    return choices
