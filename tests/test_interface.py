"""The names and arguments of the interface, each defined in the file that it is listed under."""

import ast
import importlib
import inspect
import pathlib
import unittest

PACKAGE = pathlib.Path(__file__).resolve().parent.parent / "startlog"

# By files: what stands there, and its arguments as the document writes them.
INTERFACE = {
    "names": {"is_name": "thing", "name_number": "name", "name_of": "number"},
    "measures": {"measure": "body", "bodies": "note, *, least=0"},
    "rows": {"is_row": "thing", "row_number": "row", "row_with": "number, board"},
    "mixing": {
        "Mixing": {
            "__init__": "self, width=None, *, factor=7919",
            "begin": "self, *, reset=False",
            "mixed": "self, value, row",
            "unmixed": "self, value, row",
            "alike": "self, row, other",
        },
    },
    "reading": {"read": "value", "beginnings": "value"},
    "logs": {
        "fault": "log, *, many=4, fixed=2",
        "is_log": "thing, *, many=4, fixed=2",
        "is_up": "log",
    },
    "replays": {
        "replay": "mixing, log, *, many=4, fixed=2",
        "replays": "mixing, log, *, many=4, fixed=2",
        "leads_to": "mixing, log, values, *, many=4, fixed=2",
        "shown_rows": "log, *, many=4, fixed=2",
    },
    "others": {
        "other_log": "mixing, log, some",
        "count_logs": "mixing, value, some, many",
        "hidden": "mixing, some",
    },
    "mends": {
        "mended": "log, step",
        "mends": "mixing, log, values, some, *, many=4, fixed=2",
        "first_parted": "mixing, log, values, *, many=4, fixed=2",
    },
    "hands": {
        "Hand": {
            "__init__": "self, name, body, *, loads=(), lies=()",
            "notes": "self, next_hand",
            "__eq__": "self, other",
            "__str__": "self",
        },
    },
    "signs": {"sign_of": "key, numbers"},
    "machines": {
        "Machine": {
            "__init__": "self, name, key, hands, *, mixing=None, many=4, fixed=2",
            "start": "self",
            "step": "self",
            "late": "self, board, name, body",
            "reset": "self, board, name",
            "turn": "self, place, hand",
            "state": "self",
            "starts": "self",
            "log": "self",
            "boards": "self",
            "quote": "self, number, *, some=None",
            "twin": "self",
        },
        "plan_of": "hands",
        "first_false": "plan, log",
    },
    "quotes": {
        "is_quote": "thing",
        "quote_of": "key, name, start, number, values",
        "is_signed": "key, quote",
        "values_of": "quote",
    },
    "texts": {"log_text": "log", "log_in": "text", "quote_text": "quote", "quote_in": "text"},
    "rules": {"is_rule": "thing", "is_policy": "thing"},
    "verdicts": {"verdict": "policy, log", "fits": "policy, log"},
    "standings": {
        "first_standing": "policy",
        "stepped": "policy, standing, row",
        "ends": "policy, standing",
    },
    "free": {"binds": "policy, row, other", "orders": "policy, log"},
    "parting": {
        "parted": "policy, other",
        "alike_paper": "policy, other",
        "shows_alike": "policy, other, thing",
        "shows_parted": "policy, other, thing",
    },
    "policytexts": {"policy_text": "policy", "policy_in": "text"},
    "book": {
        "Book": {
            "__init__": "self, *, life=9, most=8",
            "know": "self, name, key, *, mixing=None, policy=(), plan=(), many=4, fixed=2",
            "put": "self, name, *, policy=None, plan=None",
            "drop": "self, name",
            "ask": "self, name",
            "tick": "self, *, many=1",
            "take": "self, quote, log",
            "names": "self",
            "asked": "self, name",
            "last": "self, name",
            "history": "self, name",
            "__len__": "self",
            "twin": "self",
            "log": "self",
            "is_open": "self",
        },
    },
    "deeds": {"do": "book, deeds"},
    "yard": {
        "Yard": {
            "__init__": "self, *, life=9",
            "build": "self, name, key, hands, *, mixing=None, policy=(), many=4, fixed=2",
            "start": "self, name",
            "step": "self, name",
            "late": "self, name, board, row_name, body",
            "reset": "self, name, board, row_name",
            "turn": "self, name, place, hand",
            "ask": "self, name",
            "answer": "self, name",
            "carry": "self, place=0",
            "keep": "self, place=0",
            "lose": "self, place=0",
            "swap": "self, place, other",
            "bend": "self, place, step",
            "forge": "self, place, key",
            "tick": "self",
            "book": "self",
            "machine": "self, name",
            "on_way": "self",
            "__len__": "self",
            "twin": "self",
        },
    },
    "desk": {"answers": "text"},
}

ERRORS = (
    "StartError", "NoName", "NoRow", "BadMixing", "NoBoard", "BadLog", "BadStep", "BadHand", "BadMachine", "NotYet",
    "Fixed", "BadText", "BadLine", "Known", "Unknown", "TooMany", "BadDeed", "NoNumber", "NoPacket",
)


def defined(body):
    """The functions and classes that are defined straight in this body, by their names."""
    return {one.name: one for one in body if isinstance(one, (ast.FunctionDef, ast.ClassDef))}


def in_file(name):
    """The functions and classes that are defined in this file of the package."""
    return defined(ast.parse((PACKAGE / f"{name}.py").read_text()).body)


def arguments(asked):
    """The arguments as they are written, without annotations."""
    told = []
    stars = False
    for argument in inspect.signature(asked).parameters.values():
        if argument.kind == argument.KEYWORD_ONLY and not stars:
            told.append("*")
            stars = True
        bare = argument.default is argument.empty
        told.append(argument.name if bare else f"{argument.name}={argument.default!r}")
    return ", ".join(told)


class Interface(unittest.TestCase):

    def test_functions_and_classes(self):
        for name, asked in INTERFACE.items():
            found = in_file(name)
            module = importlib.import_module(f"startlog.{name}")
            for one in asked:
                with self.subTest(f"{name}.{one}"):
                    self.assertIn(one, found)
                    if isinstance(asked[one], str):
                        self.assertEqual(arguments(getattr(module, one)), asked[one])
                    else:
                        self.check_methods(getattr(module, one), found[one], asked[one])

    def check_methods(self, made, written, asked):
        stands = defined(written.body)
        for method in asked:
            self.assertIn(method, stands)
            self.assertEqual(arguments(getattr(made, method)), asked[method])

    def test_errors(self):
        found = in_file("errors")
        for name in ERRORS:
            self.assertIsInstance(found.get(name), ast.ClassDef, name)


if __name__ == "__main__":
    unittest.main()
