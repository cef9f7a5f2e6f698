"""The rows of a table, counted and numbered: those of one piece first, then those of two, then those of three."""

from byexample.errors import NoNumber
from byexample.places import is_word_among
from byexample.programs import ROW_LENGTHS, is_stretch, is_tuple_of


def many(table):
    return sum([table.nodes[root].ways for root in table.roots])


def arm_answers(node, number):
    # The arms stand in the order of their first numbers: the last one that begins no later holds the number.
    found = None
    for answers, arm in node.arms.items():
        if arm[0] > number:
            break
        found = answers
    return found


def row_from(table, root, number):
    pieces = []
    node = table.nodes[root]
    while len(node.arms) > 0:
        answers = arm_answers(node, number)
        arm = node.arms[answers]
        behind = table.nodes[arm[1]]
        within = number - arm[0]
        pieces.append(table.groups[answers][within // behind.ways])
        number = within % behind.ways
        node = behind
    return tuple(pieces)


def row_at(table, number):
    if number < 0:
        raise NoNumber("a number is below 0")
    for root in table.roots:
        ways = table.nodes[root].ways
        if number < ways:
            return row_from(table, root, number)
        number -= ways
    raise NoNumber("a number is too great")


def may_be_used(table, piece):
    if is_tuple_of(2, piece):
        return is_word_among(piece[0], ("word",)) and is_word_among(piece[1], table.words)
    return is_stretch(piece)


def is_row_of_its_pieces(table, row):
    # A place with True for 1 is no place, but it would be found among the pieces as if it were one.
    if not isinstance(row, tuple) or len(row) not in ROW_LENGTHS:
        return False
    return all([may_be_used(table, piece) for piece in row])


def row_number(table, row):
    if not is_row_of_its_pieces(table, row):
        return None
    shorter = len(row) - 1
    number = sum([table.nodes[root].ways for root in table.roots[:shorter]])
    node = table.nodes[table.roots[shorter]]
    for piece in row:
        member = table.members.get(piece)
        if member is None or member[0] not in node.arms:
            return None
        arm = node.arms[member[0]]
        node = table.nodes[arm[1]]
        number += arm[0] + member[1] * node.ways
    return number
