"""Papers: what tells that a pattern runs for ever, or that it does not, and the checker of them."""

from throwskept.errors import Clash
from throwskept.states import landings_behind, landings_of, start_of, uneven_spots


def judge(pattern):
    """Return an accepted paper for the pattern."""
    try:
        return ("runs", start_of(pattern))
    except Clash as clash:
        return ("fails", clash.index, clash.hand)


def accepts(pattern, paper):
    """Return True if the paper is accepted for the pattern, otherwise False."""
    if paper[0] == "runs":
        return runs_from(pattern, paper[1])
    return paper[1:] in uneven_spots(pattern)


def runs_from(pattern, state):
    """Return True if the pattern runs from the state, otherwise False."""
    try:
        landings = landings_behind(state, pattern)
    except Clash:
        return False
    # Landings are compared, because the state behind the pattern may have more rows than there is room for.
    return landings == landings_of(state)
