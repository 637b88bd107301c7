"""The files of the package keep to the plain part of Python in which it is written."""

import ast
import builtins
from pathlib import Path
from unittest import TestCase

from roomlines import errors
from roomlines.base import endless, words
from roomlines.deeds import counts, languages, turns
from roomlines.desk import shelf
from roomlines.find import endings, rows
from roomlines.mach import heights, least, machines
from roomlines.order import before, lines, readers
from roomlines.ring import entangled, tuples
from roomlines.text import texts
from roomlines.unfold import fewest, single, unfolded

ROOT = Path(__file__).resolve().parent.parent / "roomlines"
BUILTINS = set("""len range enumerate zip min max sum abs sorted reversed int str bool list tuple dict set isinstance
    repr any all divmod iter property classmethod ValueError TypeError KeyError IndexError LookupError ArithmeticError
    OverflowError""".split())
METHODS = set("append extend pop get items values join setdefault index count split partition startswith bit_length".split())
NODES = set("""Module Expr Constant ImportFrom alias FunctionDef arguments arg ClassDef Assign AugAssign Name Load Store
    Return Raise If While For Break Continue Pass Yield YieldFrom Call keyword Attribute Subscript Slice Tuple List Dict
    Set ListComp SetComp DictComp comprehension IfExp BoolOp And Or UnaryOp Not USub Invert BinOp Add Sub Mult FloorDiv
    Mod Pow LShift RShift BitOr BitAnd Compare Eq NotEq Lt LtE Gt GtE Is IsNot In NotIn JoinedStr
    FormattedValue Lambda Try ExceptHandler Delete Del Starred""".split())
METHOD_NAMES = set("__init__ __eq__ __str__ __len__ __call__ __add__ __contains__ __iter__ __bool__".split())
INTERFACE = {
    errors: """RoomError InvalidWord InvalidHeight InvalidMachine InvalidReader InvalidRooms InvalidLines InvalidOrder
        InvalidOperation InvalidName ParseError InvalidNumber UnknownName TooMany Refused NothingToUndo""",
    words: """is_word compare_words common_end is_end sorted_words words_of words_to word_place word_at""",
    endless: "Endless root_of is_height compare ends_with agree each_end",
    machines: "Machine first_words numbered are_renamed words_to_room beginnings",
    least: """least futures are_alike parting_word parting_future has_ends language_size each_alike""",
    heights: "low_height high_height all_heights is_met last_doors word_near does_span",
    before: """relation is_before are_mixed order_of mixed_pairs mixed_paper is_mixed_paper does_keep_doors is_order""",
    lines: """line_number lines are_lines are_fewest_lines side_by_side is_side_by_side earlier_of later_of
        one_line_order longest_line steps mixed_sets""",
    readers: """Reader is_strict_order does_keep line_order order_lines are_order_lines sets_of set_bound
        are_stretches""",
    endings: "rooms_behind stretches door_counts door_goals Index first_missing",
    rows: "rows_of laid of_rows is_rows",
    tuples: """led_rooms is_ring does_go_round ring_of piece_of greatest_ring least_ring round_tuples""",
    entangled: """are_entangled entangled_paper is_entangled_paper entangled_tuples entangled_rooms entangled_number
        is_entangling""",
    unfolded: "unfolded fold_rooms folded_lines each_unfolded joined_rooms are_joinable",
    fewest: """fewest_lines fewest_fold fewest_machine is_fewest_machine fewest_paper is_fewest_paper thinned""",
    single: """has_one_line single_machine single_number is_single_machine lot_paper is_lot_paper lots_to""",
    languages: "meet union_of less ended_by after put_ahead with_words without_words of_words",
    turns: "rounds_of turned_rooms has_turns each_turned with_order undone_order order_lines best_order",
    counts: """counted room_counts counted_ending nth_word place_of next_word word_ahead between first_lengths""",
    shelf: "Shelf",
    texts: """write_word read_word write_endless read_endless write_machine read_machine write_reader read_reader rows_in
        is_written"""}
OWN_METHODS = {endless.Endless: "letters ring tail end __add__ __eq__ __len__ __str__ __init__",
               machines.Machine: "trimmed letters doors good size leads ways_in __call__ __eq__ __str__ __init__",
               readers.Reader: "of_machine letters doors good size rooms_of __call__ __eq__ __str__ __init__",
               endings.Index: "source lines further number __call__ __contains__ __len__ __eq__ __init__",
               shelf.Shelf: """put take put_all clear undo redo machine texts_ending finds spots texts_between nth place
               during twin letters texts deeds __contains__ __len__ __iter__ __eq__ __bool__ __str__ __init__"""}


def files():
    """The paths of the files of the package."""
    return sorted(ROOT.rglob("*.py"))


def trees():
    """The pairs of each file's path and its tree."""
    return [(path, ast.parse(path.read_text(encoding="ascii"))) for path in files()]


class LanguageTests(TestCase):

    def test_folders_and_files(self):
        found = [path for path in ROOT.rglob("*") if "__pycache__" not in path.parts]
        for path in found:
            if path.is_dir():
                self.assertTrue((path / "__init__.py").is_file(), path)
            else:
                self.assertRegex(path.name, r"\A[a-z][a-z0-9_]*\.py\Z|\A__init__\.py\Z")
        self.assertLessEqual(len(found), 100)

    def test_characters_and_sizes(self):
        for path in files():
            text = path.read_text(encoding="ascii")
            self.assertTrue(all(sign == "\n" or " " <= sign <= "~" for sign in text), path)
            rows = text.split("\n")
            self.assertLessEqual(len(rows) - 1, 399, path)
            self.assertLessEqual(max(map(len, rows)), 120, path)
        for path, tree in trees():
            for node in ast.walk(tree):
                if isinstance(node, ast.FunctionDef):
                    self.assertLessEqual(node.end_lineno - node.lineno + 1, 40, (path, node.name))

    def test_nodes(self):
        for path, tree in trees():
            for node in ast.walk(tree):
                name = type(node).__name__
                self.assertIn(name, NODES, (path, getattr(node, "lineno", 0)))
                if isinstance(node, ast.Constant):
                    self.assertIn(type(node.value), (int, str, bool, type(None)), path)
                    self.assertNotIn("%", node.value if isinstance(node.value, str) else "", path)
                if isinstance(node, ast.Compare) and isinstance(node.ops[0], (ast.Is, ast.IsNot)):
                    self.assertIsNone(node.comparators[0].value)
                if isinstance(node, ast.BinOp) and isinstance(node.op, ast.Pow):
                    self.assertIsInstance(node.right, ast.Constant)
                if isinstance(node, ast.Raise):
                    self.assertIsInstance(node.exc, ast.Call)

    def test_names(self):
        own = {node.name for _, tree in trees() for node in ast.walk(tree) if isinstance(node, ast.FunctionDef)}
        for path, tree in trees():
            for node in ast.walk(tree):
                if isinstance(node, ast.Name):
                    if hasattr(builtins, node.id):
                        self.assertIn(node.id, BUILTINS, (path, node.lineno))
                        self.assertIsInstance(node.ctx, ast.Load, (path, node.lineno))
                if isinstance(node, ast.arg):
                    self.assertFalse(hasattr(builtins, node.arg), (path, node.lineno))
                if isinstance(node, ast.FunctionDef):
                    self.assertTrue(node.name in METHOD_NAMES or not hasattr(builtins, node.name), node.name)
                    self.assertTrue(node.name in METHOD_NAMES or not node.name.startswith("__"), node.name)
                if isinstance(node, ast.Call) and isinstance(node.func, ast.Attribute):
                    self.assertTrue(node.func.attr in METHODS or node.func.attr in own, (path, node.lineno))

    def test_imports(self):
        defined = {}
        imported = {}
        for path, tree in trees():
            name = ".".join(("roomlines",) + path.relative_to(ROOT).with_suffix("").parts)
            defined[name] = {node.name for node in tree.body if isinstance(node, (ast.FunctionDef, ast.ClassDef))}
            defined[name] |= {node.targets[0].id for node in tree.body if isinstance(node, ast.Assign)}
            imported[name] = [(node.module, alias.name, alias.asname) for node in tree.body
                              if isinstance(node, ast.ImportFrom) for alias in node.names]
            taken = {alias for _, alias, _ in imported[name]}
            for node in ast.walk(tree):
                if isinstance(node, ast.Name) and isinstance(node.ctx, ast.Store):
                    self.assertNotIn(node.id, taken, path)
                if isinstance(node, ast.arg):
                    self.assertNotIn(node.arg, taken, path)
            used = {node.id for node in ast.walk(tree) if isinstance(node, ast.Name)}
            self.assertLessEqual(taken, used, path)
        done = []
        while len(done) < len(imported):
            ready = [name for name in imported if name not in done
                     and all(source in done for source, _, _ in imported[name])]
            self.assertTrue(ready, "files import from each other")
            done.extend(ready)
        for name, rows in imported.items():
            for source, word, renamed in rows:
                self.assertIn(word, defined[source], name)
                self.assertIsNone(renamed)

    def test_generators_are_iterated_at_once(self):
        makers = {node.name for _, tree in trees() for node in ast.walk(tree) if isinstance(node, ast.FunctionDef)
                  and any(isinstance(part, (ast.Yield, ast.YieldFrom)) for part in ast.walk(node))}
        self.assertLessEqual({"words_of", "words_to", "each_end", "beginnings", "each_alike", "mixed_pairs"}, makers)
        for path, tree in trees():
            fine = set()
            for node in ast.walk(tree):
                if isinstance(node, (ast.For, ast.comprehension)):
                    fine.add(node.iter)
                if isinstance(node, ast.YieldFrom):
                    fine.add(node.value)
                if isinstance(node, ast.Call) and isinstance(node.func, ast.Name) and node.func.id in ("list", "tuple"):
                    fine.add(node.args[0])
            for node in ast.walk(tree):
                if isinstance(node, ast.Call) and isinstance(node.func, ast.Name) and node.func.id in makers:
                    self.assertIn(node, fine, (path, node.lineno))

    def test_sets_are_taken_at_once(self):
        for path, tree in trees():
            fine = set()
            for node in ast.walk(tree):
                if isinstance(node, ast.Call) and isinstance(node.func, ast.Name) and node.func.id in ("sorted", "len"):
                    fine.add(node.args[0])
            for node in ast.walk(tree):
                called = isinstance(node, ast.Call) and isinstance(node.func, ast.Name) and node.func.id == "set"
                if called or isinstance(node, (ast.Set, ast.SetComp)):
                    self.assertIn(node, fine, (path, node.lineno))

    def test_nothing_gets_what_it_changes(self):
        # A package with a class that is iterated over hands no list to its own `+=`, `|=`, `extend` or `update`.
        for path, tree in trees():
            for node in ast.walk(tree):
                changed, walked = None, ()
                if isinstance(node, ast.AugAssign):
                    changed, walked = node.target, (node.value,)
                elif isinstance(node, ast.Call) and isinstance(node.func, ast.Attribute):
                    if node.func.attr in ("extend", "update"):
                        changed, walked = node.func.value, node.args
                if changed is not None:
                    while isinstance(changed, (ast.Attribute, ast.Subscript)):
                        changed = changed.value
                    told = {part.id for value in walked for part in ast.walk(value) if isinstance(part, ast.Name)}
                    self.assertNotIn(changed.id, told, (path, node.lineno))

    def test_interface(self):
        for module, names in INTERFACE.items():
            for name in names.split():
                self.assertEqual(getattr(module, name).__module__, module.__name__, name)
        for owner, names in OWN_METHODS.items():
            for name in names.split():
                self.assertIn(name, vars(owner))
