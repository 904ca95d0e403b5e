"""The interface stands where it is listed, and the package keeps to the rules that are easy to check."""

import ast
import pathlib
import unittest

PACKAGE = pathlib.Path(__file__).resolve().parent.parent / "ringbound"
INTERFACE = {
    "errors.py": ("RingError.__init__", "NotValid.__init__"),
    "guard.py": (
        "DEVICES", "PAGES", "FRAMES", "CELLS", "is_word(value)",
        "Guard.use(self, page, right, word)", "Guard.command(self, page)", "Guard.drop(self)",
        "Guard.entries(self)", "Guard.queue(self)",
    ),
    "memory.py": (
        "BLOCKS", "frame_cell(device, frame, index)", "doorbell(device)", "reset(device)", "ready(device)",
        "interrupt(device)", "table_word(device, page)", "acknowledge(device)",
        "Memory.access(self, actor, request)", "Memory.peek(self, cell)", "Memory.block(self, device, block)",
        "Memory.journal(self, device)", "Memory.log(self)",
    ),
    "rings.py": (
        "SLOTS", "TAGS", "SUBMISSIONS", "COMPLETIONS", "buffer_page(tag)", "slot_of(number)", "phase_of(number)",
        "descriptor(tag, kind, block, sequence)", "completion(tag, number)", "is_new_descriptor(value, number)",
        "is_new_completion(value, number)",
    ),
    "requests.py": ("is_request(value)", "new_table()", "answer_of(table, request)", "after_request(table, request)"),
    "device.py": ("Device.__init__(self, memory, device)", "Device.step(self, choice)", "Device.jobs(self)"),
    "driver.py": (
        "Driver.__init__(self, memory, device, requests, without)", "Driver.step(self)", "Driver.rows(self)",
        "Driver.under_way(self)", "Driver.free_frames(self)", "Driver.is_done(self)",
    ),
    "world.py": (
        "World.__init__(self, requests, without)", "World.play(self, acts)", "World.settle(self, rounds)",
        "World.is_liar(self, d)",
    ),
    "judge.py": ("lendings(log)", "log_fault(log)", "row_fault(rows, log, device)", "moment_fault(rows, log, device)"),
    "needed.py": ("fault_of(world)", "breaking(place)"),
}
OUTSIDE = {"heapq", "math", "itertools", "collections", "__future__"}
BARRED = {
    "register", "mro", "elements", "open", "input", "law", "version_info", "print", "id", "eval", "exec", "vars",
    "globals", "locals", "float", "complex", "super", "help", "exit", "compile", "hash", "iter", "round", "filter",
}
STATEMENTS_AT_THE_TOP = (ast.Import, ast.ImportFrom, ast.FunctionDef, ast.ClassDef, ast.Assign, ast.Expr)


def files():
    return sorted(PACKAGE.rglob("*.py"))


def signature(node):
    return f"{node.name}({', '.join(part.arg for part in node.args.args)})"


def defined_in(tree):
    """The names, signatures and methods that a file defines."""
    found = set()
    for node in tree.body:
        if isinstance(node, ast.Assign):
            found.add(node.targets[0].id)
        elif isinstance(node, ast.FunctionDef):
            found |= {node.name, signature(node)}
        elif isinstance(node, ast.ClassDef):
            for method in node.body:
                if isinstance(method, ast.FunctionDef):
                    found |= {f"{node.name}.{method.name}", f"{node.name}.{signature(method)}"}
    return found


class Package(unittest.TestCase):
    def test_interface_is_defined_in_its_files(self):
        for name, listed in INTERFACE.items():
            found = defined_in(ast.parse((PACKAGE / name).read_text()))
            self.assertEqual([entry for entry in listed if entry not in found], [], name)

    def test_the_folder_holds_python_files_alone(self):
        names = [path.name for path in PACKAGE.iterdir() if path.name != "__pycache__"]
        self.assertEqual([name for name in names if not name.endswith(".py") or name != name.lower()], [])
        self.assertIn("__init__.py", names)

    def test_sizes_and_characters(self):
        for path in files():
            lines = path.read_bytes().decode("ascii").split("\n")
            self.assertLess(len(lines), 400, path)
            for line in lines:
                self.assertLessEqual(len(line), 120, line)
                self.assertTrue(all(" " <= sign <= "~" for sign in line), line)
            for node in ast.walk(ast.parse("\n".join(lines))):
                if isinstance(node, ast.FunctionDef):
                    self.assertLessEqual(node.end_lineno - node.lineno + 1, 40, node.name)

    def test_imports(self):
        for path in files():
            for node in ast.walk(ast.parse(path.read_text())):
                self.assertNotIsInstance(node, ast.Import)
                if isinstance(node, ast.ImportFrom):
                    self.assertEqual(node.level, 0)
                    home = node.module.split(".")[0]
                    self.assertTrue(home in OUTSIDE or node.module.startswith("ringbound."), node.module)
                    self.assertNotIn("*", [name.name for name in node.names])

    def test_plain_statements_at_the_top(self):
        for path in files():
            for node in ast.parse(path.read_text()).body:
                self.assertIsInstance(node, STATEMENTS_AT_THE_TOP)
                if isinstance(node, ast.Expr):
                    self.assertIsInstance(node.value, ast.Constant)

    def test_barred_names_and_floats(self):
        for path in files():
            for node in ast.walk(ast.parse(path.read_text())):
                for field in ("id", "name", "arg", "attr"):
                    self.assertNotIn(getattr(node, field, None), BARRED, path)
                self.assertNotIsInstance(node, (ast.Div, ast.Global, ast.AsyncFunctionDef))
                if isinstance(node, ast.Constant):
                    self.assertNotIsInstance(node.value, (float, complex))


if __name__ == "__main__":
    unittest.main()
