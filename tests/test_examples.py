"""Runs the examples of the document, one name space for all, as the document says."""

import ast
import importlib
import unittest

from tests.examples import EXAMPLES
from tests.interface import MODULES


def name_space():
    names = {}
    for module in MODULES:
        names.update(vars(importlib.import_module("secondknock." + module)))
    return names


def steps_of(text):
    """The pairs of what is done and what the document tells of it."""
    steps = []
    for line in text.strip("\n").split("\n"):
        if line.startswith(">>> "):
            steps.append((line[4:], []))
        else:
            steps[-1][1].append(line)
    return [(done, "\n".join(told)) for done, told in steps]


class Examples(unittest.TestCase):
    def test_all_examples(self):
        names = name_space()
        many = 0
        for point, text in EXAMPLES:
            for done, told in steps_of(text):
                with self.subTest(point=point, done=done):
                    self.step(done, told, names)
                    many += 1
        self.assertGreater(many, 50)

    def step(self, done, told, names):
        if not told:
            exec(done, names)
        elif told.startswith("raises "):
            self.raises(done, told[7:], names)
        else:
            # repr parts True from 1 and lists from tuples, as == does not.
            self.assertEqual(repr(eval(done, names)), repr(ast.literal_eval(told)))

    def raises(self, done, told, names):
        expected = eval(told, names)
        with self.assertRaises(type(expected)) as caught:
            eval(done, names)
        self.assertIs(type(caught.exception), type(expected))
        self.assertEqual(repr(vars(caught.exception)), repr(vars(expected)))
