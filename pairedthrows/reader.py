"""Programs and terms, read from their texts.

Each helper tells None where its words are none of what it reads: only where all of a
row is known can it be said which row is refused.
"""

from pairedthrows.errors import NoText
from pairedthrows.forms import SIGNS, THROWS, has_one_sum, place_of_sums
from pairedthrows.fractions import lowest
from pairedthrows.words import is_name

FIGURES = "0123456789"

MOST_SUMS = 4

MOST_WEIGHT = 3

FIELDS = {
    "ladder": ("name", "steepness", "rung", "rung"),
    "flat": ("name", "spread", "rung", "rung"),
    "choose": ("name", "steepness", "rung", "rung"),
    "first": ("name", "rung", "steepness", "steepness", "rung", "rung"),
}


# A program, a when or a times that still waits for its end.
class Block:
    def __init__(self, word, head):
        self.word = word
        self.head = head
        self.ahead_of_else = ()
        self.rows = []


def read_number(word, low, high):
    # Longer ones are too great anyway, and turning very long ones into a number may fail.
    if not 1 <= len(word) <= len(str(high)):
        return None
    if not all([sign in FIGURES for sign in word]):
        return None
    if word[0] == "0" and len(word) > 1:
        return None
    number = int(word)
    return number if low <= number <= high else None


def read_steepness(word):
    numbers = [read_number(part, 1, 9) for part in word.split("/")]
    if len(numbers) != 2 or None in numbers:
        return None
    steepness = (numbers[0], numbers[1])
    if steepness[0] >= steepness[1] or lowest(steepness[0], steepness[1]) != steepness:
        return None
    return steepness


def read_leaf(word):
    if is_name(word):
        return ("name", word)
    number = read_number(word, 0, 999)
    return None if number is None else ("num", number)


# The last of the levels is the innermost bracket that still waits for its end: its sign, then its parts.
def close_bracket(levels):
    if len(levels) == 1 or len(levels[-1]) != 3:
        return False
    level = levels.pop()
    levels[-1].append(("op", level[0], level[1], level[2]))
    return True


def take_leaf(levels, word):
    bare = word.rstrip(")")
    leaf = read_leaf(bare)
    if leaf is None:
        return False
    levels[-1].append(leaf)
    for bracket in range(len(word) - len(bare)):
        if not close_bracket(levels):
            return False
    return True


def term_of(words):
    levels = [[]]
    for word in words:
        if word.startswith("("):
            if word[1:] not in SIGNS:
                return None
            levels.append([word[1:]])
        elif not take_leaf(levels, word):
            return None
    if len(levels) != 1 or len(levels[0]) != 1:
        return None
    return levels[0][0]


def read_term(text):
    term = term_of(text.split(" "))
    if term is None:
        raise NoText(0)
    return term


def read_sum(words, numbers):
    weights = [0] * len(numbers)
    if words == ["-"]:
        return tuple(weights)
    last = 0
    for word in words:
        number = numbers.get(word)
        if number is None or number < last or weights[number] == MOST_WEIGHT:
            return None
        weights[number] += 1
        last = number
    return tuple(weights) if words else None


def parted_by_bars(words):
    parts = [[]]
    for word in words:
        if word == "|":
            parts.append([])
        else:
            parts[-1].append(word)
    return parts


def read_sums(words, numbers, most):
    sums = [read_sum(part, numbers) for part in parted_by_bars(words)]
    return None if len(sums) > most or None in sums else tuple(sums)


def read_field(field, word):
    if field == "name":
        return word if is_name(word) else None
    if field == "steepness":
        return read_steepness(word)
    if field == "spread":
        return read_number(word, 0, 4)
    return read_number(word, 0, 9)


def read_throw(words, numbers):
    sort = words[0]
    fields = FIELDS[sort]
    middle = len(fields) + 1
    if words[middle:middle + 1] != ["of"]:
        return None
    values = [read_field(field, word) for field, word in zip(fields, words[1:middle])]
    sums = read_sums(words[middle + 1:], numbers, 1 if has_one_sum(sort) else MOST_SUMS)
    if None in values or sums is None:
        return None
    cut = place_of_sums(sort) - 1
    asked = sums[0] if has_one_sum(sort) else sums
    return (sort,) + tuple(values[:cut]) + (asked,) + tuple(values[cut:])


def read_let(words):
    term = term_of(words[2:])
    if term is None or not is_name(words[1]):
        return None
    return ("let", words[1], term)


def read_tell(words):
    term = term_of(words[1:])
    return None if term is None else ("tell", term)


def read_plain_row(words, numbers):
    if words[0] in THROWS:
        return read_throw(words, numbers)
    if words[0] == "let":
        return read_let(words)
    if words[0] == "tell":
        return read_tell(words)
    return None


def read_head(words):
    if words[0] == "when":
        return term_of(words[1:])
    if len(words) != 2:
        return None
    return read_number(words[1], 1, 3)


def take_else(blocks):
    block = blocks[-1]
    if block.word != "when":
        return False
    block.word = "else"
    block.ahead_of_else = tuple(block.rows)
    block.rows = []
    return True


def take_end(blocks):
    if blocks[-1].word not in ("else", "times"):
        return False
    block = blocks.pop()
    if block.word == "else":
        row = ("when", block.head, block.ahead_of_else, tuple(block.rows))
    else:
        row = ("times", block.head, tuple(block.rows))
    blocks[-1].rows.append(row)
    return True


# True where the line can stand there.
def take_line(blocks, line, numbers):
    if line == "else":
        return take_else(blocks)
    if line == "end":
        return take_end(blocks)
    words = line.split(" ")
    if words[0] in ("when", "times"):
        head = read_head(words)
        blocks.append(Block(words[0], head))
        return head is not None
    row = read_plain_row(words, numbers)
    blocks[-1].rows.append(row)
    return row is not None


# A dict from each kind to its number.
def read_kinds(line):
    words = line.split(" ")
    if words[0] != "kinds":
        return None
    numbers = {}
    for word in words[1:]:
        if not is_name(word) or word in numbers:
            return None
        numbers[word] = len(numbers)
    return numbers


def read(text):
    lines = text.split("\n")
    numbers = read_kinds(lines[0])
    if numbers is None:
        raise NoText(0)
    blocks = [Block("kinds", None)]
    for row, line in enumerate(lines[1:], start=1):
        if not take_line(blocks, line, numbers):
            raise NoText(row)
    if len(blocks) > 1:
        raise NoText(len(lines))
    return (tuple(numbers), tuple(blocks[0].rows))
