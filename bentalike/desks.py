"""Desks: a book, and what stands under free names; lines said to them are answered by texts."""

from bentalike.asked import euler, holes, meetings, pieces, word_of
from bentalike.doing import scene_behind, work_to
from bentalike.drafts import class_text
from bentalike.errors import BadText
from bentalike.forms import is_name
from bentalike.pages import new_book, turned_back, turned_on, turned_over_to
from bentalike.printer import scene_text
from bentalike.ratios import fraction
from bentalike.reader import read_pick
from bentalike.reading import Reader
from bentalike.renamings import alike
from bentalike.scenes import label_at
from bentalike.windows import is_above, is_row_count, letters_in
from bentalike.words import is_digits, is_free_name, words_of

UNKNOWN = "?"
# What stands behind the first word of a line: N a name, X a number, D a row of digits, W a free name.
SHAPES = {
    "strike": "N", "exchange": "NN", "shift": "NXX", "lead": "XXXXXX", "undo": "", "redo": "", "show": "", "code": "",
    "label": "XX", "letters": "XXXXD", "keep": "W", "alike": "W", "meet": "NN",
}
ALIKE_WORDS = {(True, True): "both", (True, False): "alike", (False, True): "turned", (False, False): "unlike"}


def is_statement(line):
    """Whether the first words of a line are those of a statement."""
    kinds = [kind for kind, _, _ in words_of(line)]
    return kinds[0] == "let" or kinds[:2] == ["name", "="]


def number_from(word):
    """The fraction that a word tells; None if it tells none."""
    upper, sign, lower = word.partition("/")
    digits = upper[1:] if upper.startswith("-") else upper
    if not is_digits(digits) or (sign and not (is_digits(lower) and int(lower) > 0)):
        return None
    return fraction(-int(digits) if upper.startswith("-") else int(digits), int(lower) if sign else 1)


def value_from(kind, word):
    """What a word tells where one of this kind has to stand; None if it is none."""
    if kind == "N":
        return word if is_name(word) else None
    if kind == "X":
        return number_from(word)
    if kind == "D":
        return int(word) if is_digits(word) else None
    return word if is_free_name(word) else None


def values_from(words):
    """What the words behind the first one tell; None if they are not as they have to be."""
    kinds = SHAPES.get(words[0])
    if kinds is None or len(kinds) != len(words) - 1:
        return None
    values = [value_from(kind, word) for kind, word in zip(kinds, words[1:])]
    return None if None in values else values


class Desk:
    """A book, figures told by let, scenes that are kept."""

    def __init__(self):
        self.book = new_book(())
        self.free_figures = {}
        self.kept = {}

    def scene(self):
        return self.book[0][0]

    def answer(self, line):
        words = [word for word in line.split(" ") if word]
        try:
            if is_statement(line):
                return self.answer_statement(line)
            if not words:
                return ""
            if words[0] in ("pieces", "holes", "euler"):
                return self.answer_count(words, line)
        except BadText as error:
            return f"BadText {error.spot}"
        values = values_from(words)
        return UNKNOWN if values is None else self.answer_plain(words[0], values)

    def answer_statement(self, line):
        reader = Reader(line, False)
        reader.free_figures = dict(self.free_figures)
        _, first, _ = reader.words[0]
        reader.named_figures = {name: figure for name, figure in self.scene() if name != first}
        reader.read_statement()
        reader.finish()
        if first == "let":
            self.free_figures = reader.free_figures
        else:
            self.change(("put", first, (), reader.named_figures[first]))
        return "done"

    def change(self, deed):
        """Change the book by a deed: its work, None if it does not fit."""
        scene = self.scene()
        behind = scene_behind(scene, deed)
        if behind is None:
            return None
        self.book = turned_over_to(self.book, behind)
        return work_to(scene, deed, behind)

    def answer_count(self, words, line):
        if len(words) == 1:
            return UNKNOWN
        # With blanks in the place of the first word places are those in the whole line.
        start = line.index(words[0]) + len(words[0])
        pick = read_pick(" " * start + line[start:])
        if words[0] == "pieces":
            return str(pieces(self.scene(), pick))
        if words[0] == "holes":
            return str(holes(self.scene(), pick))
        return str(euler(self.scene(), pick))

    def answer_plain(self, word, values):
        """The answer to a line of a word and values as they have to be."""
        if word == "undo":
            return self.answer_undo()
        if word == "redo":
            return self.answer_redo()
        if word == "show":
            return scene_text(self.scene())[:-1] if self.scene() else "nothing"
        if word == "code":
            return self.book[0][1]
        if word == "label":
            return class_text(label_at(self.scene(), tuple(values)))
        if word == "letters":
            return self.answer_letters(values)
        if word == "keep":
            self.kept[values[0]] = self.scene()
            return "done"
        if word == "alike":
            return self.answer_alike(values[0])
        if word == "meet":
            truths = meetings(self.scene(), values[0], values[1])
            return " ".join([word_of(self.scene(), values[0], values[1])] + [str(int(truth)) for truth in truths])
        return self.answer_deed(word, values)

    def answer_deed(self, word, values):
        deed = (word,) + tuple(values)
        if word == "shift":
            deed = (word, values[0], (), values[1], values[2])
        elif word == "lead":
            deed = (word, tuple(values))
        work = self.change(deed)
        return "does not fit" if work is None else f"work {work}"

    def answer_undo(self):
        if not self.book[1]:
            return "nothing there"
        self.book = turned_back(self.book)
        return "done"

    def answer_redo(self):
        if not self.book[2]:
            return "nothing there"
        self.book = turned_on(self.book)
        return "done"

    def answer_letters(self, values):
        low, high, count = tuple(values[:2]), tuple(values[2:4]), values[4]
        if not is_above(high, low) or not is_row_count(count):
            return UNKNOWN
        return "\n".join(letters_in(self.scene(), low, high, count))

    def answer_alike(self, name):
        if name not in self.kept:
            return "UnknownName"
        return ALIKE_WORDS[alike(self.scene(), self.kept[name])]
