"""The words of a text, with their places: digits, small words, names, signs."""

from bentalike.forms import NAMES

DIGITS = "0123456789"
LETTERS = "abcdefghijklmnopqrstuvwxyz"
SIGNS = ("+", "-", "&", "/", ",", "(", ")", "[", "]", "=", ";")
KEY_WORDS = ("let", "spot", "path", "area", "rim", "inner", "closure", "not", "all")
MOST_DIGITS = 400
MOST_LETTERS = 12


def words_of(text):
    """The triples (KIND, WORD, PLACE) of all words, and one of kind "end" behind them.

    The kind of a key word or a sign is the word itself; the others are "digits", "name", "free", and
    "strange" for what stands in no text.
    """
    words = []
    place = 0
    while place < len(text):
        sign = text[place]
        if sign == "#":
            place = end_of_remark(text, place)
        elif sign in (" ", "\n"):
            place += 1
        else:
            end = end_of_word(text, place)
            words.append((kind_of_word(text[place:end]), text[place:end], place))
            place = end
    words.append(("end", "", len(text)))
    return words


def end_of_remark(text, start):
    end = text.find("\n", start)
    return len(text) if end < 0 else end


def end_of_word(text, start):
    """The place behind the word that begins here."""
    signs = ""
    if text[start] in DIGITS:
        signs = DIGITS
    elif text[start] in LETTERS:
        signs = LETTERS + DIGITS
    end = start + 1
    while end < len(text) and text[end] in signs:
        end += 1
    return end


def kind_of_word(word):
    if word in NAMES:
        return "name"
    if word in SIGNS or word in KEY_WORDS:
        return word
    if is_digits(word):
        return "digits"
    return "free" if is_free_name(word) else "strange"


def is_digits(text):
    """Whether a text is a row of digits that may stand in a text."""
    return 1 <= len(text) <= MOST_DIGITS and all(sign in DIGITS for sign in text)


def is_free_name(text):
    """Whether a text is a free name."""
    if not 1 <= len(text) <= MOST_LETTERS or text in KEY_WORDS or text[0] not in LETTERS:
        return False
    return all(sign in LETTERS + DIGITS for sign in text)
