"""Keeps: the programs that some examples leave over.

They are numbered so: the do programs as the rows of their table, then the if programs, look by look.
"""

from byexample.cheapness import cheapest
from byexample.errors import NoNumber, NothingFits
from byexample.numbers import many, row_at, row_number
from byexample.places import is_word_among
from byexample.programs import holds, is_tuple_of, price
from byexample.tables import table_of


class Choice:
    # The if programs of one look: each row of the one table with each row of the other.
    def __init__(self, look, table, other_table):
        self.look = look
        self.table = table
        self.other_table = other_table


class Keep:
    def __init__(self, table, choices):
        self.table = table
        self.choices = choices


def table_among(tables, words, examples):
    # Several looks may part the examples alike, and then one table is enough.
    key = tuple(examples)
    if key not in tables:
        tables[key] = table_of(words, examples)
    return tables[key]


def choice_of(tables, words, look, examples):
    coming = [example for example in examples if holds(look, example[0])]
    others = [example for example in examples if not holds(look, example[0])]
    return Choice(look, table_among(tables, words, coming), table_among(tables, words, others))


def keep(words, looks, examples):
    tables = {}
    table = table_among(tables, words, examples)
    return Keep(table, [choice_of(tables, words, look, examples) for look in looks])


def ways_of(choice):
    return many(choice.table) * many(choice.other_table)


def left(kept):
    return many(kept.table) + sum([ways_of(choice) for choice in kept.choices])


def choice_program(choice, number):
    other_rows = many(choice.other_table)
    row = row_at(choice.table, number // other_rows)
    return ("if", choice.look, row, row_at(choice.other_table, number % other_rows))


def program_at(kept, number):
    rows = many(kept.table)
    if number < rows:
        # A number below 0 is refused here.
        return ("do", row_at(kept.table, number))
    number -= rows
    for choice in kept.choices:
        ways = ways_of(choice)
        if number < ways:
            return choice_program(choice, number)
        number -= ways
    raise NoNumber("a number is too great")


def choice_number(choice, row, other_row):
    number = row_number(choice.table, row)
    other_number = row_number(choice.other_table, other_row)
    if number is None or other_number is None:
        return None
    return number * many(choice.other_table) + other_number


def if_number(kept, look, row, other_row):
    ahead = many(kept.table)
    for choice in kept.choices:
        if choice.look == look:
            number = choice_number(choice, row, other_row)
            return None if number is None else ahead + number
        ahead += ways_of(choice)
    return None


def number_of(kept, program):
    if is_tuple_of(2, program) and is_word_among(program[0], ("do",)):
        return row_number(kept.table, program[1])
    if is_tuple_of(4, program) and is_word_among(program[0], ("if",)):
        return if_number(kept, program[1], program[2], program[3])
    return None


def cheapest_programs(kept):
    programs = []
    row = cheapest(kept.table)
    if row is not None:
        programs.append(("do", row))
    for choice in kept.choices:
        if ways_of(choice) > 0:
            programs.append(("if", choice.look, cheapest(choice.table), cheapest(choice.other_table)))
    return programs


def least(kept):
    programs = cheapest_programs(kept)
    if len(programs) == 0:
        raise NothingFits("no program fits the examples")
    return min(programs, key=price)
