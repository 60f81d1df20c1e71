"""Plain patterns: heights, their turns, and heights that are alike."""

from throwskept.counts import count_of_heights
from throwskept.errors import NotPlain


def pattern_of(heights):
    """Return the pattern for which the heights stand."""
    return tuple([(((height, 0),),) if height else ((),) for height in heights])


def is_plain(heights):
    """Return True if the heights are plain, otherwise False."""
    n = len(heights)
    return len({(i + height) % n for i, height in enumerate(heights)}) == n


def check_plain(heights):
    """Raise NotPlain if the heights are not plain."""
    if not is_plain(heights):
        raise NotPlain("two things land at the same beat")


def things_of(heights):
    """Return the things of plain heights."""
    check_plain(heights)
    return sum(heights) // len(heights)


def turned(heights, count):
    """Return the heights turned by the count."""
    first = count % len(heights)
    return heights[first:] + heights[:first]


def least_turn(heights):
    """Return the least turn of the heights."""
    n = len(heights)
    # Two turns are compared, and the greater one is dropped; trying out all of them would take far longer.
    one, other, same = 0, 1, 0
    while one < n and other < n and same < n:
        left = heights[(one + same) % n]
        right = heights[(other + same) % n]
        if left == right:
            same += 1
            continue
        # With it go the turns that begin among its equal items: each one is greater than the one that begins as
        # many items behind the lesser turn.
        if left > right:
            one += same + 1
        else:
            other += same + 1
        if one == other:
            other += 1
        same = 0
    return turned(heights, min(one, other))


def unlike_count(thing_number, n):
    """Return the number of classes of alike plain heights with n items and so many things."""
    if thing_number == 0:
        # There are only the zeros; n may have too many digits to look for its divisors.
        return 1
    totients = totients_of_divisors(n)
    # Burnside's lemma: there are as many classes as heights that a turn leaves unchanged, on average over all turns.
    # A turn by k leaves d items repeated unchanged, d being the greatest common divisor of k and n; repeated they
    # are plain exactly if the d items are, and have as many things.
    fixed = [totients[n // d] * count_of_heights(thing_number, d) for d in totients]
    return sum(fixed) // n


def totients_of_divisors(n):
    """Return a dict from each divisor d of n to the number of integers from 1 to d that share no factor with it."""
    totients = {}
    for d in divisors(n):
        # Each integer from 1 to d is one of these for d divided by their greatest common divisor.
        totients[d] = d - sum([totients[e] for e in totients if d % e == 0])
    return totients


def divisors(n):
    """Return the divisors of n in ascending order."""
    low = []
    d = 1
    while d * d <= n:
        if n % d == 0:
            low.append(d)
        d += 1
    return sorted(set(low + [n // e for e in low]))
