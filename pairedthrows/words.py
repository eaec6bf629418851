"""Names, and the words that are none."""

LETTERS = "abcdefghijklmnopqrstuvwxyz"

LONGEST_NAME = 8

KEPT_WORDS = (
    "kinds", "ladder", "flat", "choose", "first", "let",
    "tell", "when", "else", "times", "end", "of",
)


def is_name(text):
    if not 1 <= len(text) <= LONGEST_NAME:
        return False
    return text not in KEPT_WORDS and all([sign in LETTERS for sign in text])
