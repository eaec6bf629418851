"""The desk: it keeps a program, and is told rows of words."""

from pairedthrows.errors import NoRow
from pairedthrows.fractions import less, lowest
from pairedthrows.holds import holds
from pairedthrows.least import least_factor_of, least_rest_of
from pairedthrows.looker import look
from pairedthrows.prices import price
from pairedthrows.reader import read, read_number
from pairedthrows.runs import told_table
from pairedthrows.trimmed import trimmed
from pairedthrows.writer import show

MOST_COUNT = 1000000

# P and Q have at most nine figures.
MOST_PART = 999999999

# How many words there are in each row that names a kind.
WORDS = {"price": 2, "least": 2, "rest": 3, "holds": 4}

PIECE = 1000000000000000000

PIECE_FIGURES = 18


def show_number(number):
    pieces = []
    # Numbers of some thousand figures can't be written at once.
    while number >= PIECE:
        pieces.append(str(number % PIECE).zfill(PIECE_FIGURES))
        number = number // PIECE
    pieces.append(str(number))
    return "".join(list(reversed(pieces)))


def show_fraction(fraction):
    return "/".join([show_number(number) for number in fraction])


def show_fractions(fractions):
    return " ".join([show_fraction(fraction) for fraction in fractions])


def show_numbers(numbers):
    return ",".join([str(number) for number in numbers])


def known_number(word, low, high):
    number = read_number(word, low, high)
    if number is None:
        raise NoRow()
    return number


def known_fraction(word):
    parts = word.split("/")
    if len(parts) != 2:
        raise NoRow()
    return lowest(known_number(parts[0], 0, MOST_PART), known_number(parts[1], 1, MOST_PART))


def known_kind(program, word):
    if word not in program[0]:
        raise NoRow()
    return program[0].index(word)


def say_shares(program, words):
    if len(words) != len(program[0]):
        raise NoRow()
    crowd = tuple([known_number(word, 0, MOST_COUNT) for word in words])
    table = told_table(program, crowd)
    return " ".join([":".join([show_numbers(answer), show_fraction(share)]) for answer, share in table])


def say_least(program, kind):
    factor = least_factor_of(program, kind)[0]
    return "none" if factor is None else show_fraction(factor)


def say_holds(program, kind, factor, rest):
    told = holds(program, kind, factor, rest)
    if told[0] == "paper":
        return " ".join(["paper", str(len(told[1]))])
    if told[0] == "breaks":
        return " ".join(["breaks", show_numbers(told[1]), show_numbers(told[2])])
    return " ".join(["open", show_fractions(told[1:])])


def say_of_kind(program, words):
    if len(words) != WORDS.get(words[0]):
        raise NoRow()
    kind = known_kind(program, words[1])
    fractions = [known_fraction(word) for word in words[2:]]
    if fractions and less(fractions[0], (1, 1)):
        raise NoRow()
    if words[0] == "price":
        return show_fractions(price(program, kind))
    if words[0] == "least":
        return say_least(program, kind)
    if words[0] == "rest":
        return show_fraction(least_rest_of(program, kind, fractions[0])[0])
    return say_holds(program, kind, fractions[0], fractions[1])


class Desk:
    def __init__(self):
        self.program = None

    def say(self, row):
        if "\n" in row:
            raise NoRow()
        if row.startswith("keep "):
            return self.keep_text(row[len("keep "):])
        if self.program is None:
            raise NoRow()
        words = row.split(" ")
        if words == ["trim"]:
            self.program = trimmed(self.program)
            return "kept"
        if words == ["text"]:
            return show(self.program).replace("\n", " ; ")
        if words[0] == "shares":
            return say_shares(self.program, words[1:])
        return say_of_kind(self.program, words)

    def keep_text(self, text):
        program = read(text.replace(" ; ", "\n"))
        look(program)
        self.program = program
        return "kept"
