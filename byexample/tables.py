"""Tables: the rows that fit some examples, kept without being listed.

Pieces that answer all the texts alike stand in one group, under their answers. A rest is what the pieces of a row have
still to answer: a tuple of what is left of each wanted answer. A node stands for all rows of one length that answer a
rest, and is made once, however many ways lead to it.
"""

from byexample.pieces import DEEDS, done_to
from byexample.places import all_places, spot
from byexample.programs import ROW_LENGTHS

# The number of the node where nothing is left to be answered, and of the one that stands for no rows.
END = 0

NOWHERE = 1


class Node:
    def __init__(self, ways):
        self.ways = ways
        # By the answers of the first piece: how many rows are numbered ahead of its own, and the node behind it.
        self.arms = {}


class Table:
    def __init__(self, words, groups):
        self.words = words
        self.groups = groups
        self.members = members_of(groups)
        # A node stands behind all those that its arms lead to.
        self.nodes = [Node(1), Node(0)]
        self.node_numbers = {}
        self.roots = []


def members_of(groups):
    members = {}
    for answers, pieces in groups.items():
        for number, piece in enumerate(pieces):
            members[piece] = (answers, number)
    return members


def places_by_spots(texts):
    places = {}
    for place in all_places():
        spots = tuple([spot(place, text) for text in texts])
        if None not in spots:
            places.setdefault(spots, []).append(place)
    return places


def stretches(texts, starts, ends):
    signs = []
    for text, start, end in zip(texts, starts, ends):
        if start >= end:
            return None
        signs.append(text[start:end])
    return signs


def stand_within(answers, wanted):
    return all([answer in whole for answer, whole in zip(answers, wanted)])


def add_to_group(groups, wanted, answers, pieces):
    # What stands nowhere in the wanted answers is answered in no row that fits.
    if stand_within(answers, wanted):
        groups.setdefault(answers, []).extend(pieces)


def pieces_between(deed, starts, ends):
    pieces = []
    for start in starts:
        pieces.extend([(deed, start, end) for end in ends])
    return pieces


def groups_of(words, texts, wanted):
    groups = {}
    for word in words:
        add_to_group(groups, wanted, tuple([word for text in texts]), [("word", word)])
    places = places_by_spots(texts)
    for starts in places:
        for ends in places:
            signs = stretches(texts, starts, ends)
            if signs is not None:
                for deed in DEEDS:
                    answers = tuple([done_to(deed, part) for part in signs])
                    add_to_group(groups, wanted, answers, pieces_between(deed, places[starts], places[ends]))
    return groups


def rest_behind(rest, answers):
    parts = []
    for part, answer in zip(rest, answers):
        if not part.startswith(answer):
            return None
        parts.append(part[len(answer):])
    return tuple(parts)


def answers_to_try(table, length, rest):
    # A last piece answers all of the rest, so that no other one need be tried.
    if length == 1:
        return [rest] if rest in table.groups else []
    return list(table.groups)


def new_node(table, length, rest):
    node = Node(0)
    for answers in answers_to_try(table, length, rest):
        behind = rest_behind(rest, answers)
        if behind is not None:
            number = node_number(table, length - 1, behind)
            if number != NOWHERE:
                node.arms[answers] = (node.ways, number)
                node.ways += len(table.groups[answers]) * table.nodes[number].ways
    if node.ways == 0:
        return NOWHERE
    table.nodes.append(node)
    return len(table.nodes) - 1


def node_number(table, length, rest):
    if length == 0:
        return END
    key = (length, rest)
    if key not in table.node_numbers:
        table.node_numbers[key] = new_node(table, length, rest)
    return table.node_numbers[key]


def table_of(words, examples):
    # Sorted, the examples tell the same in whatever order they came.
    ordered = sorted(examples)
    texts = [example[0] for example in ordered]
    wanted = tuple([example[1] for example in ordered])
    table = Table(tuple(words), groups_of(words, texts, wanted))
    table.roots.extend([node_number(table, length, wanted) for length in ROW_LENGTHS])
    return table
