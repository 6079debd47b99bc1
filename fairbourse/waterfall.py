"""The waterfall: tiers that bear a loss in order. A tier is a list of sizes, one for each member."""

from fairbourse.errors import InvalidAmount
from fairbourse.integers import is_within
from fairbourse.money import split

MOST_SIZE = 1000000000000000


def bear(loss, tiers):
    """Return what each member of each tier bears, one list for each tier, and the loss that is left."""
    _check_sizes([loss])
    for sizes in tiers:
        _check_sizes(sizes)
    borne = []
    left = loss
    for sizes in tiers:
        parts = _parts(left, sizes)
        borne.append(parts)
        left -= sum(parts)
    return borne, left


def tiers_of(fallen, margin, shares, skin):
    """Return the five tiers for the loss of the fallen house with this index."""
    others = [0 if house == fallen else share for house, share in enumerate(shares)]
    return [[margin], [shares[fallen]], [skin], others, [2 * share for share in others]]


def tear_up(left, gains):
    """Return what each house gives up of its gains for a loss that is left."""
    _check_sizes([left])
    _check_sizes(gains)
    return _parts(left, gains)


class Default:
    """The loss of a fallen house: who bears it, and what nobody bears."""

    def __init__(self, fallen, loss, margin, shares, skin, gains):
        self.tiers = tiers_of(fallen, margin, shares, skin)
        self.borne, self.left = bear(loss, self.tiers)
        self.torn = tear_up(self.left, gains)
        self.uncovered = self.left - sum(self.torn)

    def borne_by(self, house):
        """Return what a house bears in the last two tiers and gives up."""
        return self.borne[3][house] + self.borne[4][house] + self.torn[house]


def _parts(loss, sizes):
    """Return what each size bears of a loss."""
    # `split` divides among 1 member at least, and a tier may be empty.
    if not sizes:
        return []
    return split(min(loss, sum(sizes)), sizes)


def _check_sizes(sizes):
    if not all([is_within(0, MOST_SIZE, size) for size in sizes]):
        raise InvalidAmount("a loss or a size is out of range")
