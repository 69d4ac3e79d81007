"""Webs: who gets the weight of a supposition that is taken out."""

from surefinds.exact import NIL, ONE, over, plus, times


def weights_left(weights, web, lot):
    """The weights that are left for the lot when all others are taken out, 0 elsewhere."""
    left, rows = weights, web
    for index in range(len(weights)):
        if index not in lot:
            left, rows = without(left, rows, index)
    return left


def without(weights, web, index):
    """The weights and the web when the index is taken out of both; it keeps no weight, and no row and no place."""
    shares = web[index]
    left = [NIL if at == index else plus(weight, times(weights[index], shares[at]))
            for at, weight in enumerate(weights)]
    return tuple(left), tuple([row_without(web, index, at) for at in range(len(web))])


def row_without(web, index, at):
    given, taken = web[at], web[index]
    back = times(given[index], taken[at])
    if at == index or back == ONE:
        return (NIL,) * len(web)
    rest = (back[1] - back[0], back[1])
    return tuple([NIL if to == index or to == at else over(plus(share, times(given[index], taken[to])), rest)
                  for to, share in enumerate(given)])
