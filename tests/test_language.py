"""The package keeps to the rules of LANGUAGE.md, as far as a look at its files can tell, and to the interface."""

import ast
import builtins
import pathlib
import re
import unittest

PACKAGE = pathlib.Path(__file__).resolve().parent.parent / "kindfill"
FILES = sorted(PACKAGE.rglob("*.py"))

INTERFACE = {
    "words": ["is_mark", "is_name"],
    "kinds": ["is_kind", "leaves_of", "depth_of", "ends_of", "ways_of"],
    "kindtexts": ["shown_kind", "read_kind"],
    "programs": ["is_program", "parts_of", "deep_of", "part_at"],
    "fitting": ["kind_of", "tidied"],
    "progtexts": ["shown_program", "read_program"],
    "places": ["step_places"],
    "steps": ["stepped", "run"],
    "longs": ["is_long", "long_form", "size_of"],
    "books": ["book_of"],
    "makings": ["making_of", "made_by"],
    "worlds": ["is_tree", "worlds_of", "holds"],
    "barring": ["bars", "barring"],
    "tables": ["is_table", "told_many", "told_by"],
    "rings": ["is_ring", "gone_round"],
    "settling": ["settled", "lets"],
    "counting": ["counts_of", "shortest"],
    "order": ["spelling_of", "of_size", "number_of"],
    "patterns": ["pattern_of"],
    "bridges": ["are_bridges", "bridged"],
    "sides": ["sides_of", "stand_once"],
    "catalogue": ["kinds_many", "kind_at", "kind_number"],
    "census": ["census"],
    "drafts": ["read_draft", "shown_draft", "gaps_of"],
}
# The functions that come to call themselves, each no deeper than kinds, trees and tables may be: 12 and 40; than there
# are names in programs that are counted: 16; than there are rooms on the way in a shortest program; than a plain long
# form may be: 100; or just once (renumbered).
BOUNDED = [
    ("barring", "tree_without"), ("bridges", "put_across"), ("catalogue", "kind_with"), ("catalogue", "number_with"),
    ("gauges", "renumbered"), ("longs", "gone_along"), ("longs", "long_moves"), ("longs", "made_long"),
    ("patterns", "end_pattern"), ("patterns", "end_patterns"),
    ("plans", "plan_of"), ("settling", "entry_of"), ("settling", "table_of"), ("shortlongs", "many_of"),
    ("sums", "many"), ("sums", "many_in"), ("tables", "entry_many"), ("tables", "leaf_programs"),
    ("tables", "table_programs"), ("tables", "told_many"), ("worlds", "where_holds"),
]
BUILTINS = set(
    "len range enumerate zip min max sum abs sorted reversed int str bool bytes list tuple dict set frozenset isinstance "
    "ord repr any all divmod iter next Exception ValueError TypeError KeyError IndexError LookupError ZeroDivisionError "
    "ArithmeticError OverflowError RuntimeError NotImplementedError AttributeError StopIteration".split())
METHODS = set(
    "append clear copy count endswith extend find get index insert isalnum isalpha isdigit islower isspace isupper items "
    "join keys ljust lower lstrip partition pop remove replace reverse rfind rjust rpartition rsplit rstrip setdefault "
    "split splitlines startswith strip update upper values zfill bit_length add discard sort".split())
BARRED_WORDS = set(
    "type typing typing_extensions enum Enum IntEnum StrEnum Flag IntFlag Generic Protocol ABC ABCMeta namedtuple "
    "NamedTuple TypedDict TYPE_CHECKING abstractmethod".split())
BARRED_NAMES = set(
    "register mro elements open input law version_info with_traceback add_note attrgetter breakpoint builtins compile "
    "copyright credits delattr dir eval exec exit gc getattr globals hasattr help id importlib license locals "
    "methodcaller os quit setattr super type vars sys".split())
BARRED_NODES = (ast.Global, ast.AsyncFunctionDef, ast.AsyncFor, ast.AsyncWith, ast.Await, ast.Import, ast.Div)


def tree_of(path):
    return ast.parse(path.read_text())


def nodes_of(path, *sorts):
    return [node for node in ast.walk(tree_of(path)) if isinstance(node, sorts)]


def names_bound(path):
    """All names that a file gives a meaning to."""
    told = [node.id for node in nodes_of(path, ast.Name) if isinstance(node.ctx, ast.Store)]
    told += [node.name for node in nodes_of(path, ast.FunctionDef, ast.ClassDef)]
    told += [node.arg for node in nodes_of(path, ast.arg)]
    return told


class Files(unittest.TestCase):
    def test_only_plain_files(self):
        others = [path for path in PACKAGE.rglob("*") if path not in FILES and "__pycache__" not in path.parts]
        self.assertEqual(others, [])
        self.assertIn(PACKAGE / "__init__.py", FILES)
        for path in FILES:
            self.assertTrue(path.stem == "__init__" or re.fullmatch("[a-z][a-z0-9_]*", path.stem), path)

    def test_sizes_and_signs(self):
        for path in FILES:
            text = path.read_text()
            lines = text.split("\n")
            self.assertLessEqual(len(lines), 399, path)
            self.assertLessEqual(max(len(line) for line in lines), 120, path)
            self.assertTrue(all(sign == "\n" or " " <= sign <= "~" for sign in text), path)
            for node in nodes_of(path, ast.FunctionDef):
                self.assertLessEqual(node.end_lineno - node.lineno + 1, 40, node.name)

    def test_barred_words(self):
        for path in FILES:
            text = path.read_text()
            self.assertEqual(set(re.findall("[A-Za-z_]+", text)) & BARRED_WORDS, set(), path)
            for word in ("dataclass", "overload", "contextmanager"):
                self.assertNotIn(word, text)
            for node in nodes_of(path, ast.Constant):
                self.assertFalse(isinstance(node.value, str) and "%" in node.value, path)


class Modules(unittest.TestCase):
    def test_imports_name_the_file_that_defines(self):
        for path in FILES:
            for node in nodes_of(path, ast.ImportFrom):
                self.assertEqual(node.level, 0)
                self.assertEqual(node.module.split(".")[0], "kindfill")
                other = PACKAGE / (node.module.split(".")[1] + ".py")
                own = [name for name in top_names(other)]
                for each in node.names:
                    self.assertIn(each.name, own, path)
                    self.assertIsNone(each.asname)

    def test_no_two_files_import_from_each_other(self):
        ahead = {path.stem: [node.module.split(".")[1] for node in nodes_of(path, ast.ImportFrom)] for path in FILES}
        while ahead:
            free = [stem for stem, needed in ahead.items() if not any(other in ahead for other in needed)]
            self.assertTrue(free, ahead)
            for stem in free:
                del ahead[stem]

    def test_module_level(self):
        for path in FILES:
            body = tree_of(path).body
            self.assertIsInstance(body[0], ast.Expr, path)
            for node in body[1:]:
                self.assertIsInstance(node, (ast.ImportFrom, ast.FunctionDef, ast.ClassDef, ast.Assign), path)
            imported = [each.name for node in nodes_of(path, ast.ImportFrom) for each in node.names]
            told = top_names(path) + imported
            self.assertEqual(len(told), len(set(told)), path)

    def test_the_interface(self):
        for stem, names in INTERFACE.items():
            told = [node.name for node in tree_of(PACKAGE / (stem + ".py")).body if isinstance(node, ast.FunctionDef)]
            for name in names:
                self.assertIn(name, told)
        desk = [node for node in tree_of(PACKAGE / "desk.py").body if isinstance(node, ast.ClassDef)]
        self.assertEqual([each.name for each in desk], ["Desk"])
        self.assertIn("say", methods_in(PACKAGE / "desk.py"))


class Code(unittest.TestCase):
    def test_no_barred_forms(self):
        for path in FILES:
            for node in nodes_of(path, *BARRED_NODES):
                self.fail(f"{path}, line {node.lineno}: {node}")
            for node in nodes_of(path, ast.FunctionDef, ast.ClassDef):
                self.assertEqual(node.decorator_list, [], path)
            for node in nodes_of(path, ast.Constant):
                self.assertNotIsInstance(node.value, (float, complex))

    def test_names(self):
        for path in FILES:
            imported = [each.name for node in nodes_of(path, ast.ImportFrom) for each in node.names]
            for name in names_bound(path):
                self.assertTrue(name == "__init__" or not name.startswith("_"), name)
                self.assertNotIn(name, dir(builtins))
                self.assertNotIn(name, BARRED_NAMES)
                self.assertNotIn(name, imported, path)

    def test_builtins_and_methods(self):
        for path in FILES:
            imported = [each.name for node in nodes_of(path, ast.ImportFrom) for each in node.names]
            known = set(names_bound(path) + imported) | BUILTINS
            own = {function.name for other in FILES for each in nodes_of(other, ast.ClassDef) for function in each.body
                   if isinstance(function, ast.FunctionDef)}
            for node in nodes_of(path, ast.Name):
                self.assertIn(node.id, known, f"{path}, line {node.lineno}")
            for node in nodes_of(path, ast.Call):
                if isinstance(node.func, ast.Attribute):
                    self.assertIn(node.func.attr, METHODS | own, f"{path}, line {node.lineno}")

    def test_is_stands_with_none_true_and_false_alone(self):
        for path in FILES:
            for node in nodes_of(path, ast.Compare):
                for sign, other in zip(node.ops, node.comparators):
                    if isinstance(sign, (ast.Is, ast.IsNot)):
                        self.assertIsInstance(other, ast.Constant, f"{path}, line {node.lineno}")

    def test_no_function_comes_to_call_itself(self):
        # What is read and told here may be nested deeper than calls may be, but for kinds, trees and tables.
        called = {}
        for path in FILES:
            homes = {each.name: node.module.split(".")[1] for node in nodes_of(path, ast.ImportFrom)
                     for each in node.names}
            methods = methods_in(path)
            for function in nodes_of(path, ast.FunctionDef):
                names = [node.id for node in ast.walk(function) if isinstance(node, ast.Name)]
                names += [node.attr for node in ast.walk(function) if isinstance(node, ast.Attribute)
                          and node.attr in methods and getattr(node.value, "id", None) == "self"]
                called[path.stem, function.name] = [(homes.get(name, path.stem), name) for name in names]
        round_again = [one for one in called if one in reached(one, called)]
        self.assertEqual(sorted(round_again), BOUNDED)

    def test_no_name_is_a_method_here_and_an_attribute_there(self):
        methods = [name for path in FILES for name in methods_in(path)]
        for path in FILES:
            for node in nodes_of(path, ast.Attribute):
                if isinstance(node.ctx, ast.Store):
                    self.assertNotIn(node.attr, methods, f"{path}, line {node.lineno}")

    def test_an_init_calls_that_of_the_class_s_own_base(self):
        seen = []
        for path in FILES:
            for each in nodes_of(path, ast.ClassDef):
                bases = [base.id for base in each.bases]
                for node in ast.walk(each):
                    if isinstance(node, ast.Attribute) and node.attr == "__init__":
                        self.assertIn(node.value.id, bases, f"{path}, line {node.lineno}")
                        seen.append(each.name)
        self.assertEqual(seen, ["NoFit", "NoMaking"])


def methods_in(path):
    """The names of the methods of a file's classes."""
    return [function.name for each in nodes_of(path, ast.ClassDef) for function in each.body
            if isinstance(function, ast.FunctionDef)]


def reached(start, called):
    """All that a function comes to call."""
    told, todo = set(), [start]
    while todo:
        for other in called.get(todo.pop(), []):
            if other not in told:
                told.add(other)
                todo.append(other)
    return told


def top_names(path):
    """The names that a file's module level defines or assigns."""
    told = []
    for node in tree_of(path).body:
        if isinstance(node, (ast.FunctionDef, ast.ClassDef)):
            told.append(node.name)
        if isinstance(node, ast.Assign):
            told += [each.id for each in node.targets]
    return told


if __name__ == "__main__":
    unittest.main()
