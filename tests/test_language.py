"""The package against those rules of its language that can be read off the code simply."""

import ast
import builtins
import re
import unittest
from pathlib import Path

PACKAGE = Path(__file__).resolve().parent.parent / 'grantroll'
BUILTINS = set('''
    len range enumerate zip min max sum abs sorted reversed int str bool bytes list tuple dict set frozenset isinstance
    ord repr any all divmod pow iter next super property staticmethod classmethod map
    Exception ValueError TypeError KeyError IndexError LookupError ZeroDivisionError ArithmeticError OverflowError
    RuntimeError NotImplementedError AttributeError StopIteration NotImplemented'''.split())
METHODS = set('''
    append clear copy count endswith extend find get index insert isalnum isalpha isdigit islower isspace isupper items
    join keys ljust lower lstrip partition pop remove replace reverse rfind rjust rpartition rsplit rstrip setdefault
    split splitlines startswith strip update upper values zfill bit_length capitalize swapcase casefold expandtabs
    removeprefix removesuffix rindex isascii isdecimal isnumeric istitle isidentifier isprintable __init__'''.split())
SPECIAL = set('''
    __init__ __eq__ __repr__ __str__ __len__ __iter__ __lt__ __le__ __gt__ __ge__ __ne__ __add__ __sub__ __mul__
    __and__ __or__ __xor__ __contains__ __bool__'''.split())
BARRED = re.compile(r'\b(type|typing|enum|Enum|Generic|Protocol|ABC|namedtuple|register|mro|elements|law)\b'
                    r'|dataclass|overload|contextmanager|_wall')
LIBRARY = {'heapq': {'heappush', 'heappop', 'heapify'}, 'math': {'gcd', 'lcm', 'isqrt', 'comb', 'perm', 'factorial'},
           'itertools': {'product', 'combinations', 'permutations', 'chain', 'accumulate', 'pairwise', 'islice'},
           'collections': {'defaultdict', 'deque'}}
INTERFACE = {
    'grants': ['grant_error', 'supports'],
    'rolls': ['Roll'],
    'counting': ['counts', 'counting_grants', 'chains', 'chain_count', 'why', 'shows'],
    'errors': ['GrantrollError'],
    'powers': ['has', 'powers_of', 'since', 'steps_of', 'holders'],
    'revoking': ['without', 'shortest', 'lost_by', 'lost_powers'],
    'hanging': ['hanging', 'hanging_tree', 'hanging_paper', 'check_hanging', 'hanging_persons'],
    'strength': ['strength', 'check_strength', 'keeps'],
    'cores': ['core', 'useful_paper', 'check_useful', 'alike_paper', 'check_alike', 'gives_no_more',
              'same_under_revoking', 'separates'],
    'standing': ['is_standing', 'standing_part', 'standing_at', 'standing_count', 'standing_index', 'build_orders',
                 'minimal_sets'],
    'joins': ['later_grant', 'same_under_adding', 'same_always', 'adding_tells', 'always_tells'],
    'ledger': ['Ledger'],
}
# Some of these the rules allow, each with many conditions: the package does without them.
BARRED_NODES = (ast.Set, ast.SetComp, ast.AsyncFunctionDef, ast.Await, ast.Global, ast.Try, ast.Match, ast.With,
                ast.NamedExpr, ast.Import, ast.Div)
FUNCTIONS = (ast.FunctionDef, ast.Lambda)
TAKES_LISTS = {'any', 'all', 'sum', 'min', 'max', 'sorted'}


def read(path):
    return path.read_text(encoding='utf-8')


def without_docstrings(tree):
    for node in ast.walk(tree):
        if isinstance(node, (ast.Module, ast.ClassDef, ast.FunctionDef)) and ast.get_docstring(node) is not None:
            node.body = node.body[1:]
    return tree


class LanguageTest(unittest.TestCase):
    def setUp(self):
        self.paths = sorted(path for path in PACKAGE.rglob('*') if '__pycache__' not in path.parts and path.is_file())
        self.trees = {path.stem: without_docstrings(ast.parse(read(path))) for path in self.paths}

    def nodes(self, *kinds):
        for name, tree in self.trees.items():
            for node in ast.walk(tree):
                if isinstance(node, kinds):
                    yield f'{name}.py:{getattr(node, "lineno", 0)}', node

    def test_files(self):
        self.assertIn(PACKAGE / '__init__.py', self.paths)
        for path in self.paths:
            self.assertRegex(path.name, r'^[a-z0-9_]+\.py$')
            self.assertEqual(path.parent, PACKAGE)

    def test_sizes_and_characters(self):
        for path in self.paths:
            text = read(path)
            lines = text.split('\n')
            self.assertLessEqual(len(lines), 399, path.name)
            self.assertLessEqual(max(map(len, lines)), 120, path.name)
            self.assertRegex(text, r'\A[\n -~]*\Z', path.name)
        for place, node in self.nodes(ast.FunctionDef):
            self.assertLessEqual(node.end_lineno - node.lineno + 1, 40, place)

    def test_no_barred_nodes(self):
        for place, node in self.nodes(*BARRED_NODES):
            self.fail(f'{place}: {type(node).__name__}')
        for place, node in self.nodes(ast.Constant):
            self.assertNotIsInstance(node.value, (float, complex, bytes), place)

    def test_imports(self):
        uses = {name: set() for name in self.trees}
        for name, tree in self.trees.items():
            for node in ast.walk(tree):
                if not isinstance(node, ast.ImportFrom):
                    continue
                words = {alias.name for alias in node.names}
                self.assertIn(node, tree.body)
                self.assertEqual([alias.asname for alias in node.names], [None] * len(node.names))
                if node.module in LIBRARY:
                    self.assertLessEqual(words, LIBRARY[node.module])
                    continue
                top, source = node.module.split('.')
                self.assertEqual(top, 'grantroll')
                self.assertLessEqual(words, self.bound_in(self.trees[source]), f'{name}.py')
                uses[name].add(source)
        done = set()
        while len(done) < len(uses):
            ready = {name for name in uses if name not in done and uses[name] <= done}
            self.assertTrue(ready, 'files import from each other')
            done |= ready

    def bound_in(self, tree):
        """The names that a file itself defines at module level; each statement there is of a plain kind."""
        names = []
        for node in tree.body:
            if isinstance(node, (ast.FunctionDef, ast.ClassDef)):
                names.append(node.name)
            elif isinstance(node, ast.Assign):
                self.assertEqual([type(target) for target in node.targets], [ast.Name])
                names.append(node.targets[0].id)
            else:
                self.assertIsInstance(node, ast.ImportFrom)
        self.assertEqual(len(names), len(set(names)))
        return set(names)

    def test_module_level(self):
        for name, tree in self.trees.items():
            imported = {alias.name for node in tree.body if isinstance(node, ast.ImportFrom) for alias in node.names}
            self.assertFalse(self.bound_in(tree) & imported, name)
            for node in ast.walk(tree):
                bound = node.arg if isinstance(node, ast.arg) else getattr(node, 'id', None)
                if bound in imported:
                    self.assertIsInstance(getattr(node, 'ctx', None), ast.Load, f'{name}.py: {bound}')

    def test_interface(self):
        for name, words in INTERFACE.items():
            self.assertLessEqual(set(words), self.bound_in(self.trees[name]))

    def test_builtins(self):
        # doctest leaves a `_` among the builtins.
        all_builtins = set(dir(builtins)) - {'_'}
        for place, node in self.nodes(ast.Name):
            if node.id in all_builtins:
                self.assertIn(node.id, BUILTINS, place)
                self.assertIsInstance(node.ctx, ast.Load, place)
        for place, node in self.nodes(ast.arg):
            self.assertNotIn(node.arg, all_builtins, place)
        for place, node in self.nodes(ast.FunctionDef, ast.ClassDef):
            self.assertNotIn(node.name, all_builtins, place)

    def test_names(self):
        words = {node.id for _, node in self.nodes(ast.Name)} | {node.attr for _, node in self.nodes(ast.Attribute)}
        words |= {node.name for _, node in self.nodes(ast.FunctionDef)} | {node.arg for _, node in self.nodes(ast.arg)}
        for word in words - SPECIAL:
            self.assertRegex(word, r'^(_|_?[A-Za-z][A-Za-z0-9_]*)$')
        for place, node in self.nodes(ast.Name):
            self.assertFalse(node.id == '_' and isinstance(node.ctx, ast.Load), place)

    def test_words(self):
        for name, tree in self.trees.items():
            self.assertIsNone(BARRED.search(ast.unparse(tree)), name)
        for place, node in self.nodes(ast.Constant):
            if isinstance(node.value, str):
                self.assertNotRegex(node.value, r'%|^__.*__$|\._+$', place)

    def test_methods_of_values(self):
        own = {node.name for _, node in self.nodes(ast.FunctionDef)}
        for place, node in self.nodes(ast.Call):
            if isinstance(node.func, ast.Attribute):
                self.assertIn(node.func.attr, METHODS | own, place)

    def test_no_generator_expressions_where_lists_are_asked(self):
        for place, node in self.nodes(ast.Call):
            if isinstance(node.func, ast.Name) and node.func.id in TAKES_LISTS:
                self.assertFalse([each for each in node.args if isinstance(each, ast.GeneratorExp)], place)

    def test_decorators_and_annotations(self):
        for place, node in self.nodes(ast.FunctionDef):
            for decorator in node.decorator_list:
                self.assertIn(ast.unparse(decorator), ('property', 'classmethod', 'staticmethod'), place)
        for place, node in self.nodes(ast.ClassDef):
            self.assertEqual(node.decorator_list, [], place)

    def test_nested_functions_and_errors(self):
        for place, node in self.nodes(*FUNCTIONS):
            inside = [each for each in ast.walk(node) if isinstance(each, ast.FunctionDef) and each is not node]
            self.assertEqual(inside, [], place)
        errors = {node.name for node in self.trees['errors'].body}
        for place, node in self.nodes(ast.Raise):
            self.assertIsInstance(node.exc, ast.Call, place)
            self.assertIn(node.exc.func.id, errors, place)


if __name__ == '__main__':
    unittest.main()
