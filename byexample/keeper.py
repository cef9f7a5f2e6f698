"""The keeper: examples are put in and taken out, and the programs that they leave over are asked about."""

from byexample.errors import NoExample, Twice
from byexample.keeping import keep, least, left, number_of, program_at
from byexample.programs import run
from byexample.spreads import answers, apart, question


class Keeper:
    def __init__(self, words, looks=None):
        self.words = list(words)
        self.looks = [] if looks is None else list(looks)
        # The answers by their texts, in the order of putting in.
        self.standing = {}
        # The keep of the examples that stand; None where it was not asked for since they changed.
        self.kept = None

    def put(self, text, answer):
        if text in self.standing:
            raise Twice("this text stands in the keeper already")
        self.standing[text] = answer
        self.kept = None

    def take(self, text):
        if text not in self.standing:
            raise NoExample("this text does not stand in the keeper")
        self.standing.pop(text)
        self.kept = None

    def examples(self):
        return list(self.standing.items())

    def kept_now(self):
        if self.kept is None:
            self.kept = keep(self.words, self.looks, self.examples())
        return self.kept

    def left(self):
        return left(self.kept_now())

    def program_at(self, number):
        return program_at(self.kept_now(), number)

    def number_of(self, program):
        return number_of(self.kept_now(), program)

    def least(self):
        return least(self.kept_now())

    def answers(self, text):
        return answers(self.kept_now(), text)

    def apart(self, text):
        return apart(self.kept_now(), text)

    def question(self, texts):
        return question(self.kept_now(), texts)

    def stuck(self):
        if self.left() > 0:
            return None
        ahead = []
        for example in self.examples():
            ahead.append(example)
            if left(keep(self.words, self.looks, ahead)) == 0:
                return example[0]
        return None

    def fill(self, texts):
        # Asked first: where nothing is left that is refused, whatever the texts.
        program = self.least()
        filled = [run(program, text) for text in texts]
        return (filled, [number for number, answer in enumerate(filled) if answer is None])
