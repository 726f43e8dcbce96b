"""The words of a text: what a name is, and which atom a word writes."""

WIDE = 281474976710656

LETTERS = "abcdefghijklmnopqrstuvwxyz"
FIGURES = "0123456789"
TAKEN_WORDS = ("fn", "in", "new", "get", "put", "call", "out", "if", "while", "else", "end", "back")
SIGNS = ("+", "-", "*", "/", "<", "=", "&", "|", "^")
MOST_LETTERS = 8
MOST_FIGURES = 15


def is_name(text):
    if not is_made_of(text, LETTERS, MOST_LETTERS):
        return False
    return text not in TAKEN_WORDS


def atom_of(word):
    if is_name(word):
        return word
    return value_of(word)


def value_of(word):
    # The length is asked ahead of int, which refuses texts of some thousand figures.
    if not is_made_of(word, FIGURES, MOST_FIGURES):
        return None
    if word[0] == "0" and word != "0":
        return None
    number = int(word)
    return number if number < WIDE else None


# Signs are looked up one by one: isalpha and isdigit take letters and figures of other scripts too.
def is_made_of(text, signs, most):
    if len(text) < 1 or len(text) > most:
        return False
    return all([sign in signs for sign in text])
