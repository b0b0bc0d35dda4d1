"""The interface stands where DOC.md lists it, and the files keep the sizes and signs of LANGUAGE.md."""

import ast
import unittest
from pathlib import Path

PACKAGE = Path(__file__).resolve().parent.parent / 'pipeform'

FUNCTIONS = {
    'running.py': {'run': ['pipeline', 'lines'], 'run_on_runs': ['pipeline', 'runs']},
    'normal.py': {'normal_form': ['pipeline'], 'is_normal': ['pipeline'], 'equivalent': ['first', 'second']},
    'parting.py': {'parting_lines': ['first', 'second']},
    'powers.py': {'power': ['pipeline', 'times']},
    'counting.py': {'count_inputs': ['pipeline', 'result', 'length', 'kinds']},
    'texts.py': {'show_pipeline': ['pipeline']},
    'readings.py': {'read_pipeline': ['text']},
}
METHODS = {
    'live.py': {
        'Live': {
            '__init__': ['self', 'pipeline', 'lines'], '__eq__': ['self', 'other'], 'lines': ['self'],
            'result': ['self'], 'insert': ['self', 'index', 'line'], 'remove': ['self', 'index'],
        },
    },
}
ERRORS = {
    'PipeError': 'ValueError', 'InvalidCommand': 'PipeError', 'InvalidRun': 'PipeError', 'InvalidIndex': 'PipeError',
    'InvalidNumber': 'PipeError', 'Unreadable': 'PipeError',
}
LIBRARY = ('heapq', 'math', 'itertools', 'collections', '__future__')


def files():
    return sorted(path for path in PACKAGE.iterdir() if path.name != '__pycache__')


def tree(name):
    return ast.parse((PACKAGE / name).read_text(encoding='ascii'))


class Interface(unittest.TestCase):
    def test_functions_are_defined_in_their_files(self):
        for name, functions in FUNCTIONS.items():
            found = {node.name: node for node in tree(name).body if isinstance(node, ast.FunctionDef)}
            for function, parameters in functions.items():
                self.assertEqual([part.arg for part in found[function].args.args], parameters)

    def test_classes_are_defined_in_their_files_with_their_own_methods(self):
        for name, classes in METHODS.items():
            found = {node.name: node for node in tree(name).body if isinstance(node, ast.ClassDef)}
            for kind, methods in classes.items():
                own = {node.name: node for node in found[kind].body if isinstance(node, ast.FunctionDef)}
                for method, parameters in methods.items():
                    self.assertEqual([part.arg for part in own[method].args.args], parameters)

    def test_errors_are_defined_in_their_file_with_their_own_methods(self):
        found = {node.name: node for node in tree('errors.py').body if isinstance(node, ast.ClassDef)}
        self.assertEqual({name: node.bases[0].id for name, node in found.items()}, ERRORS)
        for name, node in found.items():
            methods = [part.name for part in node.body if isinstance(part, ast.FunctionDef)]
            self.assertEqual(methods, [] if name == 'PipeError' else ['__init__'])


class Files(unittest.TestCase):
    def test_only_python_files(self):
        self.assertIn('__init__.py', [path.name for path in files()])
        for path in files():
            self.assertTrue(path.is_file() and path.suffix == '.py', path)

    def test_signs_and_sizes(self):
        for path in files():
            text = path.read_text(encoding='ascii')
            self.assertTrue(all(sign == '\n' or ' ' <= sign <= '~' for sign in text), path)
            rows = text.split('\n')
            self.assertLess(len(rows), 400, path)
            self.assertLessEqual(max(len(row) for row in rows), 120, path)
            for node in ast.walk(ast.parse(text)):
                if isinstance(node, ast.FunctionDef):
                    self.assertLessEqual(node.end_lineno - node.lineno, 39, (path, node.name))

    def test_imports(self):
        for path in files():
            for node in ast.walk(tree(path.name)):
                self.assertNotIsInstance(node, ast.Import, path)
                if isinstance(node, ast.ImportFrom):
                    self.assertEqual(node.level, 0)
                    self.assertTrue(node.module.startswith('pipeform.') or node.module in LIBRARY, (path, node.module))


if __name__ == '__main__':
    unittest.main()
