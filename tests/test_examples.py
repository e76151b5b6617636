"""The examples of the document's interface, as it prints them, one behind the other in one session."""

import unittest
from pathlib import Path

from bentalike import errors

EXAMPLES = Path(__file__).with_name("examples.txt").read_text(encoding="utf-8").splitlines()


def cases(lines):
    """The pairs of what is entered and the lines that the document prints behind it."""
    told = []
    for line in lines:
        if line.startswith(">>> "):
            told.append((line[4:], []))
        else:
            told[-1][1].append(line)
    return told


def answer(entered, session):
    """What the session prints for what is entered."""
    try:
        code = compile(entered, "example", "eval")
    except SyntaxError:
        exec(entered, session)
        return []
    try:
        return [repr(eval(code, session))]
    except errors.BendError as error:
        attributes = ", ".join(repr(value) for value in vars(error).values())
        return [f"raises {error.__class__.__name__}({attributes})"]


class Examples(unittest.TestCase):

    def test_each_prints_what_the_document_tells(self):
        session = {}
        for entered, printed in cases(EXAMPLES):
            with self.subTest(entered):
                self.assertEqual(answer(entered, session), printed)

    def test_there_are_examples(self):
        printed = [lines for _, lines in cases(EXAMPLES) if lines]
        self.assertEqual(len(printed), 43)


if __name__ == "__main__":
    unittest.main()
