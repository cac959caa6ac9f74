"""The names of the interface, their arguments, and the error classes [2], [28]."""

import importlib
import inspect
import unittest

from secondknock import board, errors
from tests.interface import BOARD, ERRORS, FUNCTIONS


class Interface(unittest.TestCase):
    def test_functions_and_their_arguments(self):
        for module, functions in FUNCTIONS.items():
            found = importlib.import_module("secondknock." + module)
            for name, told in functions.items():
                with self.subTest(module=module, name=name):
                    function = getattr(found, name)
                    self.assertTrue(inspect.isfunction(function))
                    self.assertEqual(function.__module__, "secondknock." + module)
                    parameters = inspect.signature(function).parameters
                    self.assertEqual(list(parameters), told.split())
                    for own in parameters.values():
                        self.assertEqual(own.kind, inspect.Parameter.POSITIONAL_OR_KEYWORD)
                        self.assertIs(own.default, inspect.Parameter.empty)

    def test_board_and_its_methods(self):
        self.assertEqual((board.Board.__module__, board.Board.__bases__), ("secondknock.board", (object,)))
        for name, told in BOARD.items():
            with self.subTest(name=name):
                self.assertIn(name, vars(board.Board))
                parameters = list(inspect.signature(vars(board.Board)[name]).parameters.values())
                self.assertEqual([own.name for own in parameters], ["self"] + told.split())
                for own in parameters:
                    self.assertEqual(own.kind, inspect.Parameter.POSITIONAL_OR_KEYWORD)
                    self.assertIs(own.default, inspect.Parameter.empty)

    def test_errors_and_what_they_keep(self):
        for name, (base, attributes) in ERRORS.items():
            with self.subTest(name=name):
                found = getattr(errors, name)
                self.assertEqual(found.__bases__, (base,))
                self.assertEqual(found.__module__, "secondknock.errors")
                values = [(3, 7) for _ in attributes]
                for error in (found(*values), found(**dict(zip(attributes, values)))):
                    self.assertEqual(vars(error), dict(zip(attributes, values)))
                if attributes:
                    self.assertRaises(TypeError, found)
