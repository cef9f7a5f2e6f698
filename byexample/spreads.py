"""What the programs left answer to a text, how many of them alike, and the question that tells them apart.

Shares are kept by answers: a share is a tuple (number, one), how many answer so, and one of those that do, be it a
piece, a row or a program. Where there are more than forty unlike answers, not all of the shares need be there, and
their numbers mean nothing: only that no two of the ones answer alike.
"""

from byexample.keeping import left
from byexample.numbers import many, row_at, row_from
from byexample.pieces import stretch_answer
from byexample.places import all_places, spot
from byexample.programs import holds

MOST_ANSWERS = 40


def are_many(shares):
    return len(shares) > MOST_ANSWERS


def add_share(shares, answer, number, one):
    if answer in shares:
        share = shares[answer]
        shares[answer] = (share[0] + number, share[1])
    else:
        shares[answer] = (number, one)


def spots_in(text):
    spots = {}
    for place in all_places():
        spots[place] = spot(place, text)
    return spots


def piece_answer(piece, spots, text):
    if piece[0] == "word":
        return piece[1]
    return stretch_answer(piece[0], spots[piece[1]], spots[piece[2]], text)


def piece_shares(pieces, spots, text):
    shares = {}
    for piece in pieces:
        add_share(shares, piece_answer(piece, spots, text), 1, piece)
    return shares


def add_rows(shares, answer, share, behind):
    # What stands behind one answer is as unlike as before: where there are many behind, there are many here.
    for rest, rest_share in behind.items():
        whole = None if rest is None else answer + rest
        add_share(shares, whole, share[0] * rest_share[0], (share[1],) + rest_share[1])


def silent_shares(table, number):
    # Behind a piece that does not answer all rows are alike, however many answers they have.
    return {None: (table.nodes[number].ways, row_from(table, number, 0))}


def node_shares(table, node, shares_by_group, shares_by_node):
    shares = {}
    for group, arm in node.arms.items():
        for answer, share in shares_by_group[group].items():
            behind = silent_shares(table, arm[1]) if answer is None else shares_by_node[arm[1]]
            add_rows(shares, answer, share, behind)
            if are_many(shares):
                return shares
    return shares


def row_shares(table, text):
    spots = spots_in(text)
    shares_by_group = {}
    for group, pieces in table.groups.items():
        shares_by_group[group] = piece_shares(pieces, spots, text)
    # The first two nodes stand for the row of no pieces and for no rows.
    shares_by_node = [{"": (1, ())}, {}]
    for node in table.nodes[2:]:
        shares_by_node.append(node_shares(table, node, shares_by_group, shares_by_node))
    shares = {}
    for root in table.roots:
        for answer, share in shares_by_node[root].items():
            add_share(shares, answer, share[0], share[1])
    return shares


def add_do_programs(shares, table, text):
    for answer, share in row_shares(table, text).items():
        add_share(shares, answer, share[0], ("do", share[1]))


def add_if_programs(shares, choice, text):
    # Only the one row is asked; each of its ways goes with all the ways of the other one.
    holding = holds(choice.look, text)
    asked = choice.table if holding else choice.other_table
    unasked = choice.other_table if holding else choice.table
    ways = many(unasked)
    if ways == 0:
        return
    row = row_at(unasked, 0)
    for answer, share in row_shares(asked, text).items():
        rows = (share[1], row) if holding else (row, share[1])
        add_share(shares, answer, share[0] * ways, ("if", choice.look) + rows)


def program_shares(kept, text):
    shares = {}
    add_do_programs(shares, kept.table, text)
    for choice in kept.choices:
        if are_many(shares):
            return shares
        add_if_programs(shares, choice, text)
    return shares


def answers_in_order(shares):
    silent = [None] if None in shares else []
    return silent + sorted([answer for answer in shares if answer is not None])


def answers(kept, text):
    shares = program_shares(kept, text)
    if are_many(shares):
        programs = [share[1] for share in shares.values()]
        return ("many", programs[:MOST_ANSWERS + 1])
    return ("all", [(answer, shares[answer][0]) for answer in answers_in_order(shares)])


def apart(kept, text):
    programs = [share[1] for share in program_shares(kept, text).values()]
    return (programs[0], programs[1]) if len(programs) > 1 else None


def rest_of(kept, text):
    shares = program_shares(kept, text)
    if are_many(shares):
        return None
    return max([share[0] for share in shares.values()], default=0)


def question(kept, texts):
    chosen = None
    least_rest = left(kept)
    for text in texts:
        rest = rest_of(kept, text)
        if rest is not None and rest < least_rest:
            chosen = text
            least_rest = rest
    return chosen
