"""Pairing what two lists of amounts have to give and to take."""


def pair_off(givers, takers):
    """Pair two lists of (name, amount), first with first; return tuples (giver, taker, amount).

    All amounts are at least 1, and those of both lists have the same sum.
    """
    pairs = []
    wanted = [amount for _, amount in takers]
    at = 0
    for giver, amount in givers:
        rest = amount
        while rest > 0:
            part = min(rest, wanted[at])
            pairs.append((giver, takers[at][0], part))
            rest -= part
            wanted[at] -= part
            if wanted[at] == 0:
                at += 1
    return pairs
