"""The document's words on texts done again, by a grammar and a tree, to compare with; and texts of all kinds."""

import re
from fractions import Fraction

WORDS = re.compile(r"[0-9]+|[a-z][a-z0-9]*|#[^\n]*|[ \n]+|.", re.S)
KEYS = "let spot path area rim inner closure not all".split()
PREFIXES = {"figure": ["rim", "inner", "closure"], "pick": ["rim", "inner", "closure", "not"]}
JOINTS = {"+": "either", "-": "less", "&": "both"}
POWERS = {"+": 1, "-": 1, "&": 2}
ORIGIN = ("spot", ((0, 1), (0, 1)))
MOST_OPEN = 12


def words_of(text):
    """The triples of a kind, a word, a place; what stands in no text has the kind "?"."""
    found = []
    for match in WORDS.finditer(text):
        word = match.group()
        if word[0] in "# \n":
            continue
        if word[0] in "0123456789":
            kind = "digits" if len(word) < 401 else "?"
        elif word[0] in "abcdefghijklmnopqrstuvwxyz":
            kind = word if word in KEYS else "free" if len(word) < 13 else "?"
        else:
            kind = "NAME" if word in "ABCD" else word if word in "+-&/,()[]=;" else "?"
        found.append((kind, word, match.start()))
    return found


def rules(symbol, kind):
    """The rows of symbols that may stand for a symbol, a pair of a name and how many are open there."""
    name, many = symbol
    whole, common, prefixed = ("WHOLE", many), ("COMMON", many), ("PREFIXED", many)
    more, more_common = ("MORE", many), ("MORE COMMON", many)
    point, number = ("POINT", 0), ("NUMBER", 0)
    room = many < MOST_OPEN
    plain = [["free"], ["spot", point], ["path", point, point, ("POINTS", 0)],
             ["area", point, point, point, ("POINTS", 0)]]
    return {
        "TEXT": lambda: [[], [("STATEMENT", 0), ";", ("TEXT", 0)]],
        "STATEMENT": lambda: [["let", "free", "=", whole], ["NAME", "=", whole]],
        "WHOLE": lambda: [[common, more]],
        "MORE": lambda: [[], ["+", common, more], ["-", common, more]],
        "COMMON": lambda: [[prefixed, more_common]],
        "MORE COMMON": lambda: [[], ["&", prefixed, more_common]],
        "PREFIXED": lambda: [[("BASE", many)]] + [[word, ("PREFIXED", many + 1)] for word in PREFIXES[kind] if room],
        "BASE": lambda: [["[", ("WHOLE", many + 1), "]"]] * room + (plain if kind == "figure" else [["NAME"], ["all"]]),
        "POINTS": lambda: [[], [point, ("POINTS", 0)]],
        "POINT": lambda: [["(", number, ",", number, ")"]],
        "NUMBER": lambda: [[sign + below for sign in ([], ["-"]) for below in (["digits"], ["digits", "/", "digits"])]
                           [at] for at in range(4)],
    }[name]()


def opened_up(stacks, kind):
    """The stacks with a word on top, or empty, that come of stacks."""
    found, waiting = set(), list(stacks)
    while waiting:
        stack = waiting.pop()
        if stack and isinstance(stack[0], tuple):
            waiting += [tuple(row) + stack[1:] for row in rules(stack[0], kind)]
        else:
            found.add(stack)
    return found


def first_wrong(text, start, kind):
    """The place of the first word that cannot go on; None if there is none."""
    stacks = opened_up({(start,)}, kind)
    for told, _, place in words_of(text):
        stacks = opened_up({stack[1:] for stack in stacks if stack and stack[0] == told}, kind)
        if not stacks:
            return place
    return None if () in stacks else len(text)


class Tree:
    """What a text of right words tells: read by powers, then gone through for what is wrong."""

    def __init__(self, text, kind):
        self.words, self.at, self.kind = words_of(text) + [("end", "", len(text))], 0, kind
        self.faults, self.free, self.named = [], {}, {}

    def pop(self):
        self.at += 1
        return self.words[self.at - 1]

    def parse(self, power=0):
        word, told, place = self.pop()
        if word in PREFIXES[self.kind]:
            node = (word, place, self.parse(3))
        elif word == "[":
            node = self.parse()
            self.pop()
        elif word in ("spot", "path", "area"):
            node = (word, place, self.points(word))
        else:
            node = (word, place, told)
        while POWERS.get(self.words[self.at][0], 0) > power:
            sign, _, at_sign = self.pop()
            node = (JOINTS[sign], at_sign, node, self.parse(POWERS[sign]))
        return node

    def points(self, word):
        found = []
        while self.words[self.at][0] == "(" and not (word == "spot" and found):
            row = []
            while self.words[self.at - 1][0] != ")" or not row:
                row.append(self.pop())
            comma = [told for told, _, _ in row].index(",")
            found.append((self.number(row[1:comma]), self.number(row[comma + 1:-1])))
        return tuple(found)

    def number(self, row):
        sign = -1 if row[0][0] == "-" else 1
        digits = [(word, place) for told, word, place in row if told == "digits"]
        lower = int(digits[1][0]) if len(digits) == 2 else 1
        if lower == 0:
            self.faults.append(digits[1][1])
            lower = 1
        value = Fraction(sign * int(digits[0][0]), lower)
        return value.numerator, value.denominator

    def value(self, node):
        """The triple of a figure or pick, how deep it is, how many segments it has."""
        word, place, told = node[:3]
        if word in ("spot", "path", "area"):
            return self.plain(word, place, told)
        if word == "free":
            if told not in self.free:
                self.faults.append(place)
            return self.free.get(told, (ORIGIN, 1, 0))
        if word == "NAME":
            return ("name", told), 1, 0
        if word == "all":
            return ("all",), 1, 0
        parts = [self.value(part) for part in node[2:]]
        deep = 1 + max(part[1] for part in parts)
        if deep > 6:
            self.faults.append(place)
            return (ORIGIN if self.kind == "figure" else ("all",)), 1, 0
        return (word,) + tuple(part[0] for part in parts), deep, sum(part[2] for part in parts)

    def plain(self, word, place, points):
        if word == "spot":
            return ("spot", points[0]), 1, 0
        round_ = points + points[:1] if word == "area" else points
        if len(points) > 12 or any(one == two for one, two in zip(round_, round_[1:])):
            self.faults.append(place)
            return ORIGIN, 1, 0
        return (word, points), 1, len(round_) - 1

    def bounded(self, others):
        place = self.words[self.at][2]
        figure, deep, many = self.value(self.parse())
        if many + sum(others) > 24:
            self.faults.append(place)
            return ORIGIN, 1, 0
        return figure, deep, many

    def statements(self):
        while self.words[self.at][0] != "end":
            word, name, place = self.pop()
            if word == "let":
                _, name, place = self.pop()
                self.told_once(name, self.free, place)
                self.pop()
                self.free[name] = self.value(self.parse())
            else:
                self.told_once(name, self.named, place)
                self.pop()
                self.named[name] = self.bounded([many for _, _, many in self.named.values()])
            self.pop()
        return tuple((name, self.named[name][0]) for name in sorted(self.named))

    def told_once(self, name, told, place):
        if name in told:
            self.faults.append(place)


def read(text, what):
    """The pair of None and what a text tells, or of the place told with BadText and None."""
    kind = "pick" if what == "pick" else "figure"
    wrong = first_wrong(text, ("TEXT" if what == "scene" else "WHOLE", 0), kind)
    if wrong is not None:
        return wrong, None
    tree = Tree(text, kind)
    told = {"scene": tree.statements, "figure": lambda: tree.bounded([])[0],
            "pick": lambda: tree.value(tree.parse())[0]}[what]()
    return (min(tree.faults), None) if tree.faults else (None, told)


SOME = {"digits": ["0", "1", "2", "00", "01", "3", "7", "12"], "NAME": list("ABCD"),
        "free": ["a", "b", "x1", "lets", "spot2", "abcdefghijkl"]}


def some_words(chance, what, often=0.45):
    """The words of some text that can be read but for what is wrong otherwise."""
    kind = "pick" if what == "pick" else "figure"
    stack, found = [("TEXT" if what == "scene" else "WHOLE", 0)], []
    while stack:
        symbol = stack.pop(0)
        if isinstance(symbol, str):
            found.append(chance.choice(SOME.get(symbol, [symbol])))
            continue
        rows = rules(symbol, kind)
        if symbol[0] in ("PREFIXED", "BASE", "TEXT", "MORE", "MORE COMMON", "POINTS"):
            plain = [row for row in rows if not any(part in row for part in ("[", "&", "+", "-", "rim", "not", ";"))]
            limit = often if len(found) < 150 else 0
            rows = rows if chance.random() < limit + 0.4 * (symbol[0] == "TEXT" and limit > 0) else plain[:1] or rows
            if symbol[0] == "BASE" and kind == "figure" and rows == plain[:1]:
                rows = plain
        stack[:0] = chance.choice(rows)
    return found


def laid_out(chance, words):
    """A text of these words, with blanks, line feeds, remarks between, and nothing where that parts them, too."""
    text = ""
    for word in words:
        gap = chance.choice(("", "", " ", "  ", "\n", " \n ", "#\n", "# A = ] 1\n", "#\t!\n "))
        glued = text[-1:].isalnum() and text[-1:] not in "ABCD" and word[0].isalnum() and word[0] not in "ABCD"
        # A row of digits ends ahead of a letter; nothing else of two letters or digits parts by itself.
        if glued and gap == "" and not (last_word(text).isdigit() and word[0].isalpha()):
            gap = " "
        text += gap + word
    return text + chance.choice(("", "", " ", "\n", "# end", "#"))


def last_word(text):
    return re.search(r"[a-z0-9]*\Z", text).group() if not re.search(r"[a-z][a-z0-9]*\Z", text) else "a"
