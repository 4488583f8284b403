"""Errands dealt to several hands, each of which has its own ranks."""

from ranksure.dealing import ranks_with_room
from ranksure.errands import TOOLS, checked, has_tool, is_whole
from ranksure.errors import NoNumber

MOST_HANDS = 4


def share_a_tool(errand, other):
    return any([has_tool(errand, tool) and has_tool(other, tool) for tool in range(TOOLS)])


# An errand can join bundles that had nothing in common without it.
def bundled(errands):
    bundles = []
    for number, errand in enumerate(errands):
        joined = [number]
        apart = []
        for bundle in bundles:
            if any([share_a_tool(errand, errands[other]) for other in bundle]):
                joined = bundle + joined
            else:
                apart.append(bundle)
        bundles = apart + [joined]
    return bundles


def fit_one_hand(errands, some):
    return ranks_with_room(tuple([errands[number] for number in some]), 0) is not None


# Errands that do not fit one hand do not fit it with more of them either, so such a pile is given up at once.
# Empty piles are alike: what the first of them can not take, no other one can.
def all_dealt(errands, bundles, piles):
    if len(bundles) == 0:
        return piles
    for hand, pile in enumerate(piles):
        grown = sorted(pile + bundles[0])
        if fit_one_hand(errands, grown):
            found = all_dealt(errands, bundles[1:], piles[:hand] + [grown] + piles[hand + 1:])
            if found is not None:
                return found
        if len(pile) == 0:
            return None
    return None


def dealing_to(errands, hands):
    return all_dealt(errands, bundled(errands), [[] for hand in range(hands)])


def dealt(errands, hands):
    checked(errands)
    if not is_whole(hands, 1, MOST_HANDS):
        raise NoNumber("hands are 1 to 4")
    return dealing_to(errands, hands)


def fewest_hands(errands):
    checked(errands)
    for hands in range(1, MOST_HANDS + 1):
        if dealing_to(errands, hands) is not None:
            return hands
    return None
