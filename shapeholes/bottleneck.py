"""How far apart two rows of bars are."""

from shapeholes.errors import BadBars
from shapeholes.filtrations import is_time
from shapeholes.simplices import is_integer

MOST_BARS = 12


def check_bars(value):
    if not isinstance(value, tuple) or len(value) > MOST_BARS:
        raise BadBars(None)
    for k in range(len(value)):
        if not is_bar(value[k]):
            raise BadBars(k)


def is_bar(value):
    if not isinstance(value, tuple) or len(value) != 2 or not is_time(value[0]):
        return False
    return value[1] is None or is_time(value[1]) and value[1] > value[0]


def doubled_distance(one, other):
    """Twice the distance of two bars, or of one and nothing, which is None; None if there is none."""
    if one is None or other is None:
        bar = other if one is None else one
        return None if bar[1] is None else bar[1] - bar[0]
    begins = abs(one[0] - other[0])
    if one[1] is None and other[1] is None:
        return 2 * begins
    if one[1] is None or other[1] is None:
        return None
    return 2 * max(begins, abs(one[1] - other[1]))


def is_within(one, other, doubled):
    distance = doubled_distance(one, other)
    return distance is not None and distance <= doubled


def is_matching(one, other, value, doubled):
    check_bars(one)
    check_bars(other)
    if not is_integer(doubled) or not is_pairing(value, len(one), len(other)):
        return False
    return all([is_within(bar_at(one, k), bar_at(other, m), doubled) for k, m in value])


def bar_at(row, index):
    return None if index is None else row[index]


def is_pairing(value, many, more):
    """Whether a value has each index of two rows of these lengths once, in pairs with another or None."""
    if not isinstance(value, tuple) or not all([is_index_pair(item) for item in value]):
        return False
    firsts = sorted([item[0] for item in value if item[0] is not None])
    seconds = sorted([item[1] for item in value if item[1] is not None])
    return firsts == list(range(many)) and seconds == list(range(more))


def is_index_pair(value):
    if not isinstance(value, tuple) or len(value) != 2 or value == (None, None):
        return False
    return all([item is None or is_integer(item) for item in value])


def bottleneck(one, other):
    check_bars(one)
    check_bars(other)
    lefts = list(one) + [None] * len(other)
    rights = list(other) + [None] * len(one)
    distances = [doubled_distance(left, right) for left in lefts for right in rights
                 if left is not None or right is not None]
    # The answer is a distance that occurs, or 0 if there is nothing to match.
    for doubled in sorted(set([0] + [distance for distance in distances if distance is not None])):
        partners = partners_within(lefts, rights, doubled)
        if partners is not None:
            return doubled, matching_of(partners, len(one), len(other))
    return None


def partners_within(lefts, rights, doubled):
    """A dict that gives each place of the rights one of the lefts, None if there is no way.

    Nothing, which both lists have often enough, goes with nothing and with short bars."""
    choices = [[at for at in range(len(rights))
                if left is None and rights[at] is None or is_within(left, rights[at], doubled)]
               for left in lefts]
    partners = {}
    for left in range(len(lefts)):
        if not settle(left, choices, partners, {}):
            return None
    return partners


def settle(left, choices, partners, tried):
    """Find a partner for a left place, moving others where that helps; whether there is a way."""
    for right in choices[left]:
        if right in tried:
            continue
        tried[right] = True
        if right not in partners or settle(partners[right], choices, partners, tried):
            partners[right] = left
            return True
    return False


def matching_of(partners, many, more):
    """The matching of rows of these lengths; places behind their ends stand for nothing."""
    found = [(partners[right] if partners[right] < many else None, right if right < more else None)
             for right in sorted(list(partners))]
    return tuple([pair for pair in found if pair != (None, None)])
