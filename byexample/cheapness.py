"""The cheapest row of a table.

A find is a tuple (price, row): the cheapest row of a node, or, with a piece for the row, the cheapest one of a group.
"""

from byexample.pieces import piece_price


def price_found(find):
    return find[0]


def cheapest_of(finds):
    # The prices alone are weighed: rows can't be ordered. Of those that cost the same the first one is told.
    return min(finds, key=price_found, default=None)


def cheapest_piece(pieces):
    return cheapest_of([(piece_price(piece), piece) for piece in pieces])


def find_behind(find, behind):
    return (find[0] + behind[0], (find[1],) + behind[1])


def cheapest_in(node, piece_finds, finds):
    return cheapest_of([find_behind(piece_finds[answers], finds[arm[1]]) for answers, arm in node.arms.items()])


def node_finds(table):
    piece_finds = {}
    for answers, pieces in table.groups.items():
        piece_finds[answers] = cheapest_piece(pieces)
    # The first two nodes stand for the row of no pieces and for no rows; each other one is gone through but once.
    finds = [(0, ()), None]
    for node in table.nodes[2:]:
        finds.append(cheapest_in(node, piece_finds, finds))
    return finds


def cheapest(table):
    finds = node_finds(table)
    found = cheapest_of([finds[root] for root in table.roots if finds[root] is not None])
    return None if found is None else found[1]
