"""What stands under which name, and that the package keeps to its language."""

import ast
import builtins
import importlib
import inspect
import pathlib
import unittest

PACKAGE = pathlib.Path(__file__).resolve().parent.parent / "pricedreels"

# The modules that are there, in the order of the document, with the parameters of what each of them has.
INTERFACE = {
    "bits": """folded(number) unfolded(number) is_bits(thing) fixed_bits(number,many) long_bits(number)
        grade_bits(number,grade) read_fixed(bits,at,many) read_long(bits,at) read_grade(bits,at,grade)""",
    "grids": """Shape(height,width,low,high) is_plane(shape,thing) flat_plane(shape,number) turned(plane,way)
        is_block(shape,thing) spots(shape,block) roots(shape) cells(shape) quarters(shape,block)
        place_of(shape,block) blocks_at(shape,place) is_cover(shape,thing) many_covers(shape)""",
    "guesses": "modes_at(shape,block,kind) guess(shape,block,mode,plane) reads_within(shape,block,mode)",
    "copies": """sample_at(shape,plane,y,x) copied(shape,block,vector,plane)
        both_copied(shape,block,vector,plane,other) reads_copied(shape,block,vector)""",
    "losses": "level_of(rest,loss) rebuilt(shape,guess,level,loss) levels_that(shape,guess,sample,loss)",
    "lifts": """areas(height,width) is_rectangle(thing) lifted(rectangle) unlifted(rectangle) lift_spans(lows,highs)
        lift_end(lows,highs,y,x,upper) lift_errors(height,width,loss) worst_lift(height,width,loss,y,x)""",
    "heads": "Head(kind,loss,grade,reach,book) words_of(book) head_bits(head) read_head(bits,at)",
}
ORDER = ["errors", "checks"] + list(INTERFACE)


def trees():
    return {path.stem: ast.parse(path.read_text(encoding="utf-8")) for path in sorted(PACKAGE.glob("*.py"))}


def nodes(kind):
    return [(name, node) for name, tree in trees().items() for node in ast.walk(tree) if isinstance(node, kind)]


class Interface(unittest.TestCase):
    def test_names_and_parameters(self):
        for module, told in INTERFACE.items():
            found = importlib.import_module(f"pricedreels.{module}")
            for word in told.split():
                name, parameters = word.rstrip(")").split("(")
                thing = getattr(found, name)
                signature = inspect.signature(thing)
                self.assertEqual(list(signature.parameters), parameters.split(","), word)
                for parameter in signature.parameters.values():
                    self.assertEqual(parameter.kind, parameter.POSITIONAL_OR_KEYWORD, word)
                    self.assertIs(parameter.default, parameter.empty, word)
                self.assertEqual(thing.__module__, f"pricedreels.{module}")

    def test_by_position_and_by_name(self):
        from pricedreels.grids import Shape
        from pricedreels.heads import Head, head_bits
        shape, plane, book = Shape(2, 3, 0, 9), ((1, 4, 0), (1, 5, 0)), (1, 2, 3, 4, 5, 0, 0, 0)
        values = {
            "number": 3, "thing": "01", "many": 4, "grade": 2, "bits": head_bits(Head(0, 0, 0, 0, book)), "at": 0,
            "height": 2, "width": 3, "low": 0, "high": 9, "shape": shape, "plane": plane, "way": "corner",
            "block": (0, 2, 2), "place": 1, "kind": 1, "mode": "left", "y": 1, "x": 2, "vector": (1, -1),
            "other": plane, "rest": 5, "loss": 2, "guess": 4, "level": 1, "sample": 9, "rectangle": plane,
            "lows": plane, "highs": plane, "upper": True, "reach": 1, "book": book, "head": Head(0, 0, 0, 0, book)}
        for module, told in INTERFACE.items():
            for word in told.split():
                name, parameters = word.rstrip(")").split("(")
                call = getattr(importlib.import_module(f"pricedreels.{module}"), name)
                named = {parameter: values[parameter] for parameter in reversed(parameters.split(","))}
                expected = call(*[values[parameter] for parameter in parameters.split(",")])
                self.assertEqual(call(**named), expected, word)

    def test_classes_have_their_methods_themselves(self):
        for module, name in (("grids", "Shape"), ("heads", "Head")):
            found = getattr(importlib.import_module(f"pricedreels.{module}"), name)
            self.assertIn("__eq__", vars(found))
            self.assertIn("__init__", vars(found))

    def test_the_package_itself_defines_nothing(self):
        tree = ast.parse((PACKAGE / "__init__.py").read_text(encoding="utf-8"))
        self.assertTrue(all(isinstance(node, ast.Expr) and isinstance(node.value, ast.Constant) for node in tree.body))


class Language(unittest.TestCase):
    def test_files(self):
        found = sorted(path.name for path in PACKAGE.iterdir() if path.name != "__pycache__")
        self.assertEqual(found, sorted(["__init__.py"] + [f"{name}.py" for name in ORDER]))
        for path in PACKAGE.glob("*.py"):
            text = path.read_text(encoding="utf-8")
            self.assertTrue(all(" " <= sign <= "~" or sign == "\n" for sign in text), path)
            lines = text.split("\n")
            self.assertLessEqual(len(lines), 400, path)
            self.assertLessEqual(max(len(line) for line in lines), 120, path)

    def test_functions_are_short(self):
        for module, node in nodes(ast.FunctionDef):
            self.assertLessEqual(node.end_lineno - node.lineno + 1, 40, (module, node.name))
            self.assertEqual(node.decorator_list, [])

    def test_imports_come_from_modules_ahead(self):
        self.assertEqual(nodes(ast.Import), [])
        for module, node in nodes(ast.ImportFrom):
            package, name = node.module.split(".")
            self.assertEqual((package, node.level), ("pricedreels", 0))
            self.assertLess(ORDER.index(name), ORDER.index(module))
            defined = {part.name for part in trees()[name].body if isinstance(part, (ast.FunctionDef, ast.ClassDef))}
            defined |= {part.targets[0].id for part in trees()[name].body if isinstance(part, ast.Assign)}
            self.assertTrue(defined.issuperset(alias.name for alias in node.names), module)

    def test_what_the_language_leaves_out(self):
        barred = (ast.GeneratorExp, ast.Yield, ast.Lambda, ast.Global, ast.AsyncFunctionDef, ast.Await, ast.Div, ast.Pow,
                  ast.AnnAssign, ast.MatMult)
        self.assertEqual(nodes(barred), [])
        for module, node in nodes(ast.Constant):
            self.assertNotIsInstance(node.value, (float, complex), module)
        allowed = {"len", "range", "enumerate", "zip", "min", "max", "sum", "abs", "sorted", "reversed", "int", "str", "bool",
                   "list", "tuple", "dict", "isinstance", "all", "ValueError", "super"}
        for module, node in nodes(ast.Name):
            if hasattr(builtins, node.id):
                self.assertIn(node.id, allowed, module)
                self.assertIsInstance(node.ctx, ast.Load, module)

    def test_imported_names_are_used_and_mean_one_thing(self):
        for module, tree in trees().items():
            names = [alias.name for node in tree.body if isinstance(node, ast.ImportFrom) for alias in node.names]
            used = {node.id for node in ast.walk(tree) if isinstance(node, ast.Name) and isinstance(node.ctx, ast.Load)}
            bound = {node.id for node in ast.walk(tree) if isinstance(node, ast.Name) and isinstance(node.ctx, ast.Store)}
            bound |= {node.arg for node in ast.walk(tree) if isinstance(node, ast.arg)}
            self.assertEqual([name for name in names if name not in used or name in bound], [], module)
            self.assertEqual([name for name in bound if hasattr(builtins, name)], [], module)
            classes = {node.name for node in tree.body if isinstance(node, ast.ClassDef)}
            self.assertFalse(bound & classes, module)


if __name__ == "__main__":
    unittest.main()
