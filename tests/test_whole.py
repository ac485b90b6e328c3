"""What the document promises over the whole program: its names, their arguments, and the kinds of its refusals."""

import importlib
import inspect
import unittest

import helper
from mingleway.board import Board
from mingleway.desk import Desk
from mingleway.fields import Field
from mingleway.nets import Net
from mingleway.plans import Plan
from mingleway.runs import Run
from mingleway.spans import Span
from mingleway.sums import Guard
from mingleway.tasks import Task

# By modules the functions and classes of the interface, with their arguments as the document has them.
FUNCTIONS = {
    "fields": {"mixed": "(field, rows, shares, *, width)"},
    "spans": {"null_rows": "(field, width, rows)"},
    "ways": {
        "wide": "(net, source, hearer, *, lost=())", "ways": "(net, source, hearer, many, *, lost=())",
        "cut": "(net, source, hearer, many, *, lost=())", "breadth": "(net, houses, *, lost=())"},
    "plans": {"made": "(task)"},
    "least": {
        "tries": "(task)", "copying_tries": "(task)", "first_plan": "(task, *, most=4096)",
        "first_copying": "(task, *, most=4096)", "least_size": "(task, *, most=4096)"},
    "spread": {
        "reach": "(net, source, house, turn, *, letters=2, lost=())",
        "bar": "(net, source, house, turn, *, letters=2, lost=())", "bar_breadth": "(net, bar, turn, *, lost=())"},
    "sums": {"check_of": "(field, words, key)", "passes": "(field, check, row)"},
    "runs": {"dealt": "(seed, turn, line, place, *, size=16)"},
    "texts": {
        "net_text": "(net)", "read_net": "(text)", "plan_text": "(plan)", "read_plan": "(task, text)",
        "deed_text": "(deed)", "read_deed": "(text)"},
    "pages": {"page": "(board)", "read_page": "(text)"}}
METHODS = {
    "fields": {"Field": {
        "__init__": "(self, size=16)", "size": "(self)", "base": "(self)", "plus": "(self, one, other)",
        "less": "(self, one, other)", "times": "(self, one, other)", "over": "(self, one, other)",
        "power": "(self, one, many)", "__eq__": None, "__len__": None, "__repr__": None, "__str__": None}},
    "spans": {"Span": {
        "__init__": "(self, field, width, *, rows=())", "put": "(self, row)", "holds": "(self, row)",
        "shares": "(self, row)", "rows": "(self)", "sure": "(self)", "twin": "(self)", "__eq__": None, "__len__": None,
        "__repr__": None}},
    "nets": {"Net": {
        "__init__": "(self)", "house": "(self, name)", "line": "(self, one, other, *, slow=1, number=None)",
        "drop": "(self, name)", "cut": "(self, number)", "houses": "(self)", "lines": "(self)", "into": "(self, name)",
        "out_of": "(self, name)", "ends": "(self, number)", "order": "(self)", "ring": "(self)", "twin": "(self)",
        "__eq__": None, "__len__": None}},
    "tasks": {"Task": {
        "__init__": "(self, net, source, hearers, *, letters=2, losses=(), size=16)", "net": "(self)", "source": "(self)",
        "letters": "(self)", "field": "(self)", "hearers": "(self)", "losses": "(self)", "cases": "(self)",
        "inputs": "(self, number)", "sized": "(self, size)", "short": "(self)", "__eq__": None}},
    "plans": {"Plan": {
        "__init__": "(self, task, mixers)", "task": "(self)", "mixers": "(self)", "heads": "(self, loss=())",
        "served": "(self, hearer, loss=())", "good": "(self)", "bad_cases": "(self)",
        "carried": "(self, words, *, loss=())", "solved": "(self, hearer, came, *, loss=())", "__eq__": None}},
    "sums": {"Guard": {
        "__init__": "(self, field, words, keys)", "lets": "(self, row)", "checks": "(self)", "room": "(self)"}},
    "runs": {"Run": {
        "__init__": "(self, net, source, words, *, size=16, seed=0)", "turn": "(self)", "go": "(self, many=1)",
        "lose": "(self, line)", "spoil": "(self, line, row)", "slow": "(self, line, *, by=1)", "double": "(self, line)",
        "guard": "(self, house, keys)", "rank": "(self, house)", "rows": "(self, house)", "knows": "(self, house)",
        "clashes": "(self)", "caught": "(self)", "sent": "(self)", "back": "(self)", "again": "(self)", "twin": "(self)",
        "__len__": None}},
    "board": {"Board": {
        "__init__": "(self)", "do": "(self, deed)", "do_all": "(self, deeds)", "busy": "(self)", "undo": "(self)",
        "redo": "(self)", "deeds": "(self)", "net": "(self)", "source": "(self)", "hearers": "(self)",
        "letters": "(self)", "losses": "(self)", "size": "(self)", "task": "(self)", "planned": "(self)",
        "plan": "(self)", "twin": "(self)", "__eq__": None, "__len__": None}},
    "desk": {"Desk": {"__init__": "(self, board=None)", "board": "(self)", "say": "(self, line)"}}}
UNDER = {
    "MingleError": "BadSize BadNumber BadRow BadName BadLine BadHearers BadLoss BadPlan BadDeed BadText Ringed Short Narrow"
                   " Heavy Unsolved",
    "Missing": "NoHouse NoLine", "Busy": "Taken Full InUse Told NothingLeft", "NoShare": ""}
OWN_KINDS = {"MingleError": ValueError, "Missing": LookupError, "Busy": RuntimeError, "NoShare": ZeroDivisionError}
FIELDS = {
    "BadText": ("row",), "Ringed": ("around",), "Short": ("hearer", "loss", "within"), "Heavy": ("tries",),
    "NoHouse": ("name",), "NoLine": ("number",), "InUse": ("number",)}
PYTHON = (ValueError, LookupError, RuntimeError, ZeroDivisionError, ArithmeticError, KeyError, IndexError, TypeError,
          AttributeError, NotImplementedError, OverflowError, OSError, StopIteration, RecursionError, UnicodeError)


def module(name):
    return importlib.import_module("mingleway." + name)


def butterfly():
    return helper.pairs_net("sa sb ac bc cd ax dx by dy")


def ready_board():
    board = Board()
    board.do_all([("house", "s"), ("house", "x"), ("line", "s", "x", 1), ("source", "s"), ("hear", "x"), ("letters", 1)])
    return board


class TestInterface(unittest.TestCase):
    def test_functions(self):
        for name, functions in FUNCTIONS.items():
            for function, signature in functions.items():
                with self.subTest(function):
                    self.assertEqual(str(inspect.signature(getattr(module(name), function))), signature)

    def test_methods_stand_in_their_own_class(self):
        for name, classes in METHODS.items():
            for own_class, methods in classes.items():
                told = vars(getattr(module(name), own_class))
                for method, signature in methods.items():
                    with self.subTest(f"{own_class}.{method}"):
                        self.assertIn(method, told)
                        if signature is not None:
                            self.assertEqual(str(inspect.signature(told[method])), signature)

    def test_values(self):
        self.assertEqual(module("fields").SIZES, (2, 3, 4, 5, 7, 8, 9, 11, 13, 16))
        self.assertIsInstance(module("fields").SIZES, tuple)
        self.assertEqual((module("fields").COMMON_SIZE, module("least").MOST_TRIES), (16, 4096))

    def test_every_module_is_there(self):
        for name in "errors fields spans nets ways tasks plans least spread sums runs texts board pages desk".split():
            self.assertTrue(module(name).__doc__)


class TestRefusals(unittest.TestCase):
    def setUp(self):
        self.errors = module("errors")
        self.base_of = {name: base for base, names in UNDER.items() for name in names.split()}

    def made(self, name):
        worths = {"around": [1, 2], "hearer": "x", "loss": (1,), "within": ["s"], "name": "k"}
        return getattr(self.errors, name)(*[worths.get(field, 7) for field in FIELDS.get(name, ())])

    def test_each_against_all(self):
        names = list(OWN_KINDS) + list(self.base_of)
        for name in names:
            refusal = self.made(name)
            above = self.base_of.get(name, name)
            for other in names:
                with self.subTest(f"{name} {other}"):
                    self.assertIs(isinstance(refusal, getattr(self.errors, other)), other in (name, above))
            for kind in PYTHON:
                with self.subTest(f"{name} {kind}"):
                    self.assertIs(isinstance(refusal, kind), issubclass(OWN_KINDS[above], kind))
            self.assertIsInstance(refusal, Exception)

    def test_fields(self):
        for name in list(OWN_KINDS) + list(self.base_of):
            self.assertEqual(tuple(vars(self.made(name))), FIELDS.get(name, ()), name)


class TestKeywords(unittest.TestCase):
    """Each call by keywords in another order tells what it tells by places."""

    def alike(self, call, keywords, only=()):
        """`call` makes afresh what is called, so that both calls meet the same."""
        places = [worth for name, worth in keywords.items() if name not in only]
        behind = {name: keywords[name] for name in only}
        one = call()(*places, **behind)
        other = call()(**dict(reversed(keywords.items())))
        self.assertEqual(shown(one), shown(other))

    def test_fields_and_spans(self):
        self.alike(lambda: Field, {"size": 9})
        for method in ("plus", "less", "times", "over"):
            self.alike(lambda: getattr(Field(7), method), {"one": 3, "other": 5})
        self.alike(lambda: Field(7).power, {"one": 3, "many": 5})
        self.alike(lambda: module("fields").mixed, {"field": Field(5), "rows": [(1, 2)], "shares": [3], "width": 2}, ["width"])
        self.alike(lambda: Span, {"field": Field(5), "width": 2, "rows": [(1, 2)]}, ["rows"])
        for method in ("put", "holds", "shares"):
            self.alike(lambda: getattr(Span(Field(5), 2, rows=[(1, 2)]), method), {"row": (2, 4)})
        self.alike(lambda: module("spans").null_rows, {"field": Field(5), "width": 3, "rows": [(1, 2, 3)]})

    def test_nets_and_ways(self):
        self.alike(lambda: Net().house, {"name": "a"})
        self.alike(lambda: butterfly().line, {"one": "s", "other": "d", "slow": 2, "number": 40}, ["slow", "number"])
        lonely = butterfly()
        lonely.house("z")
        self.alike(lambda: lonely.twin().drop, {"name": "z"})
        self.alike(lambda: butterfly().cut, {"number": 3})
        self.alike(lambda: butterfly().ends, {"number": 3})
        for method in ("into", "out_of"):
            self.alike(lambda: getattr(butterfly(), method), {"name": "d"})
        words = {"net": butterfly(), "source": "s", "hearer": "x"}
        self.alike(lambda: module("ways").wide, {**words, "lost": (1,)}, ["lost"])
        for function in ("ways", "cut"):
            self.alike(lambda: getattr(module("ways"), function), {**words, "many": 2, "lost": (1,)}, ["lost"])
        self.alike(lambda: module("ways").breadth, {"net": butterfly(), "houses": ["s", "a"], "lost": (2,)}, ["lost"])

    def test_tasks_and_plans(self):
        words = {"net": butterfly(), "source": "s", "hearers": ["x"], "letters": 1, "losses": [(1,)], "size": 4}
        self.alike(lambda: Task, words, ["letters", "losses", "size"])
        task = Task(**words)
        self.alike(lambda: task.inputs, {"number": 5})
        self.alike(lambda: task.sized, {"size": 9})
        self.alike(lambda: module("plans").made, {"task": task})
        plan = module("plans").made(task)
        self.alike(lambda: Plan, {"task": task, "mixers": plan.mixers()})
        self.alike(lambda: plan.heads, {"loss": (1,)})
        self.alike(lambda: plan.served, {"hearer": "x", "loss": (1,)})
        self.alike(lambda: plan.carried, {"words": [(1, 2)], "loss": (1,)}, ["loss"])
        came = {number: plan.carried([(1, 2)])[number] for number in (6, 7)}
        self.alike(lambda: plan.solved, {"hearer": "x", "came": came, "loss": ()}, ["loss"])

    def test_least_and_spread(self):
        task = Task(butterfly(), "s", ["x", "y"], size=2)
        for function in ("tries", "copying_tries"):
            self.alike(lambda: getattr(module("least"), function), {"task": task})
        for function in ("first_plan", "first_copying", "least_size"):
            self.alike(lambda: getattr(module("least"), function), {"task": task, "most": 4096}, ["most"])
        words = {"net": butterfly(), "source": "s", "house": "d", "turn": 4, "letters": 4, "lost": ((5, 3),)}
        for function in ("reach", "bar"):
            self.alike(lambda: getattr(module("spread"), function), words, ["letters", "lost"])
        bar = module("spread").bar(**words)
        self.alike(lambda: module("spread").bar_breadth, {"net": butterfly(), "bar": bar, "turn": 4, "lost": ()}, ["lost"])

    def test_sums_and_runs(self):
        self.alike(lambda: module("sums").check_of, {"field": Field(5), "words": [(1, 2)], "key": (3, 4)})
        self.alike(lambda: module("sums").passes, {"field": Field(5), "check": (1, 2), "row": (3, 1)})
        self.alike(lambda: Guard, {"field": Field(5), "words": [(1, 2)], "keys": [(3, 4)]})
        self.alike(lambda: Guard(Field(5), [(1, 2)], [(3, 4)]).lets, {"row": (1, 1, 2)})
        self.alike(lambda: module("runs").dealt, {"seed": 1, "turn": 2, "line": 3, "place": 4, "size": 9}, ["size"])
        words = {"net": butterfly(), "source": "s", "words": [(1,), (2,)], "size": 5, "seed": 3}
        self.alike(lambda: Run, words, ["size", "seed"])
        for method, keywords, only in (
                ("go", {"many": 2}, []), ("lose", {"line": 1}, []), ("spoil", {"line": 1, "row": (1, 0, 2)}, []),
                ("slow", {"line": 1, "by": 3}, ["by"]), ("double", {"line": 1}, []), ("rank", {"house": "s"}, []),
                ("guard", {"house": "a", "keys": [(1,)]}, []), ("rows", {"house": "s"}, []), ("knows", {"house": "s"}, [])):
            self.alike(lambda: getattr(Run(**words), method), keywords, only)

    def test_texts_boards_pages_and_desks(self):
        texts = module("texts")
        task = Task(butterfly(), "s", ["x"])
        plan = module("plans").made(task)
        self.alike(lambda: texts.net_text, {"net": butterfly()})
        self.alike(lambda: texts.read_net, {"text": texts.net_text(butterfly())})
        self.alike(lambda: texts.plan_text, {"plan": plan})
        self.alike(lambda: texts.read_plan, {"task": task, "text": texts.plan_text(plan)})
        self.alike(lambda: texts.deed_text, {"deed": ("lose", (1, 2))})
        self.alike(lambda: texts.read_deed, {"text": "lose 1+2"})
        self.alike(lambda: Board().do, {"deed": ("house", "a")})
        self.alike(lambda: Board().do_all, {"deeds": [("house", "a")]})
        self.alike(lambda: module("pages").page, {"board": ready_board()})
        self.alike(lambda: module("pages").read_page, {"text": "house a\n"})
        self.alike(lambda: Desk, {"board": ready_board()})
        self.alike(lambda: Desk(ready_board()).say, {"line": "plan"})

    def test_refusals(self):
        errors = module("errors")
        for name, fields in FIELDS.items():
            worths = {field: [1, 2] if field in ("around", "within") else 7 for field in fields}
            self.alike(lambda: getattr(errors, name), worths)


def shown(thing):
    """What a thing tells, in a form that can be compared."""
    if isinstance(thing, Exception):
        return thing.__class__, vars(thing)
    if isinstance(thing, Guard):
        return thing.checks(), thing.room()
    if isinstance(thing, Run):
        thing.go(5)
        return thing.sent()
    if isinstance(thing, Desk):
        return thing.board().deeds()
    return thing


class TestAlikeOrNot(unittest.TestCase):
    def test_things_of_other_kinds(self):
        task = Task(butterfly(), "s", ["x"])
        things = [Field(4), Span(Field(4), 2), butterfly(), task, module("plans").made(task), ready_board()]
        others = [None, 0, 4, "", "s", (), [], {}, b"", 1.5, object(), Run(butterfly(), "s", [(1,)]), Desk()]
        for at, thing in enumerate(things):
            for other in things[:at] + things[at + 1:] + others:
                self.assertFalse(thing == other)
                self.assertTrue(thing != other)

    def test_what_is_alike_though_it_is_empty(self):
        # Objects without a single thing in them count as false where they are asked for their truth.
        self.assertEqual((len(Net()), len(Board()), len(Span(Field(2), 3))), (0, 0, 0))
        board = Board()
        self.assertIs(Desk(board).board(), board)
        self.assertTrue(Net() == Net() and Board() == Board() and Span(Field(2), 3) == Span(Field(2), 3))


if __name__ == "__main__":
    unittest.main()
