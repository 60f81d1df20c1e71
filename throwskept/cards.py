"""Cards, and the order of all plain heights with so many items.

A card tells to which place a thing is thrown, if the things are put in the order in which they land, from the
place 1 on. So a thing at a place moves up by one at each beat whose card is not less than that place: the first
thing is then thrown behind it. At the place 0 it has landed.
"""

from throwskept.counts import count_of_heights, power, root
from throwskept.errors import NoPlace
from throwskept.plain import check_plain


def cards_of(heights):
    """Return the cards of plain heights."""
    check_plain(heights)
    return tuple([card_at(heights, i) for i in range(len(heights))])


def card_at(heights, i):
    """Return the card i of plain heights.

    The throw with the index j is made at s = j and whole rounds ahead of and behind it. Counted are those s up to i
    for which s + heights[j] is above i and at most i + heights[i]; there are none if one of the heights is 0.
    """
    n = len(heights)
    reach = heights[i]
    return sum([
        (min(i, i + reach - height) - j) // n - (i - height - j) // n
        for j, height in enumerate(heights)
    ])


def heights_of(cards):
    """Return the plain heights whose cards these are."""
    n = len(cards)
    levels = sorted(set(cards + (0,)))
    # For each beat of the first round: the beat at which the thing that it throws comes to the level as its place.
    reached = list(range(n))
    for k in reversed(range(1, len(levels))):
        # Between two levels a thing moves up at the same beats, so that they need not be gone through one by one.
        moving = [i for i, card in enumerate(cards) if card >= levels[k]]
        order = {i: at for at, i in enumerate(moving)}
        steps = levels[k] - levels[k - 1]
        for i in moving:
            rounds, at = divmod(order[reached[i] % n] + steps, len(moving))
            reached[i] = (reached[i] // n + rounds) * n + moving[at]
    return tuple([beat - i for i, beat in enumerate(reached)])


def plain_count(thing_number, n):
    """Return how many plain heights with n items have so many things."""
    return count_of_heights(thing_number, n)


def place(heights):
    """Return the place of plain heights among those with as many items."""
    cards = cards_of(heights)
    things = max(cards)
    # Lesser cards up to the number of things, and those of them that are all below it: they have fewer things.
    lesser, fewer = 0, 0
    met = False
    for card in cards:
        lesser = lesser * (things + 1) + card
        fewer = fewer * things + (0 if met else card)
        met = met or card == things
    return power(things, len(cards)) + lesser - fewer


def heights_at(n, index):
    """Return the plain heights with n items and the place index."""
    if index < 0:
        raise NoPlace("places are not negative")
    # The heights with fewer things than b are as many as the cards below b.
    things = root(index, n)
    return heights_of(cards_at(things, n, index - power(things, n)))


def cards_at(things, n, rank):
    """Return the cards with n items whose greatest one is things, and before which so many such cards come."""
    if things == 0:
        return (0,) * n
    cards = []
    lesser, fewer = power(things + 1, n), power(things, n)
    met = False
    for _ in range(n):
        # So many cards for the items behind this one are at most things, and so many of them are all below it.
        lesser //= things + 1
        fewer //= things
        # As long as things is not met, it must still come behind a card below it; there is no room behind the last.
        behind = lesser if met else lesser - fewer
        card = min(things, rank // behind) if behind else things
        rank -= card * behind
        met = met or card == things
        cards.append(card)
    return tuple(cards)
