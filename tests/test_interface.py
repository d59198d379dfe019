"""What stands under which name, and that the package keeps to its language."""

import ast
import builtins
import copy
import importlib
import inspect
import pathlib
import unittest

from pricedreels.grids import Shape
from pricedreels.heads import Head, head_bits
from pricedreels.reels import Reel, reel_bits

PACKAGE = pathlib.Path(__file__).resolve().parent.parent / "pricedreels"

# The modules that are there, in the order of the document, with the parameters of what each of them has.
INTERFACE = {
    "bits": """folded(number) unfolded(number) is_bits(thing) fixed_bits(number,many) long_bits(number)
        grade_bits(number,grade) read_fixed(bits,at,many) read_long(bits,at) read_grade(bits,at,grade)""",
    "grids": """Shape(height,width,low,high) is_plane(shape,thing) flat_plane(shape,number) turned(plane,way)
        is_block(shape,thing) spots(shape,block) roots(shape) cells(shape) quarters(shape,block)
        place_of(shape,block) blocks_at(shape,place) is_cover(shape,thing) many_covers(shape)""",
    "guesses": "modes_at(shape,block,kind) guess(shape,block,mode,plane) reads_within(shape,block,mode)",
    "copies": """sample_at(shape,plane,y,x) copied(shape,block,vector,plane)
        both_copied(shape,block,vector,plane,other) reads_copied(shape,block,vector)""",
    "losses": "level_of(rest,loss) rebuilt(shape,guess,level,loss) levels_that(shape,guess,sample,loss)",
    "lifts": """areas(height,width) is_rectangle(thing) lifted(rectangle) unlifted(rectangle) lift_spans(lows,highs)
        lift_end(lows,highs,y,x,upper) lift_errors(height,width,loss) worst_lift(height,width,loss,y,x)""",
    "heads": "Head(kind,loss,grade,reach,book) words_of(book) head_bits(head) read_head(bits,at)",
    "tellings": """is_choice(head,shape,block,thing) is_telling(head,shape,thing) play(head,shape,telling,references)
        does_fit(head,shape,telling,references) bits_of(head,shape,telling) worth(head,shape,telling)
        read_telling(head,shape,bits,at)""",
    "fewest": """steps_from(head,shape,plane,references,place,vector) fewest(head,shape,plane,references)
        prices(head,shape,plane,references) is_prices(head,shape,plane,references,thing)
        is_fewest(head,shape,plane,references,telling,thing) many_fewest(head,shape,plane,references)
        best_grade(head,shape,plane,references) made(head,shape,plane,references)""",
    "motion": """difference(shape,now,then,block,vector) differences(shape,now,then,block,reach)
        best_vectors(shape,now,then,block,reach) spots_paper(shape,now,then,block,reach)
        is_spots_paper(shape,now,then,block,reach,thing) cut_bound(shape,now,then,block,vector,cut)
        fewest_squares(shape,now,then,block,vector,least) cut_paper(shape,now,then,block,reach)
        is_cut_paper(shape,now,then,block,reach,thing)""",
    "fields": """field_sum(shape,now,then,size,field) field_bits(shape,size,field)
        least_field(shape,now,then,size,reach,price) many_least_fields(shape,now,then,size,reach,price)
        field_prices(shape,now,then,size,reach,price) is_field_prices(shape,now,then,size,reach,price,thing)
        field_bends(shape,now,then,size,reach)""",
    "reels": """Reel(shape,entries) reel_bits(reel) read_reel(bits) item_sizes(reel) read_start(bits)
        read_item(shape,many,shows,bits,at) is_begun(bits) play_item(shape,item,references) told_planes(reel)
        shown_planes(reel) needed(reel,place) show_one(reel,place)""",
    "waits": """retold(reel,order) wait_of(reel) least_wait(reel) wait_order(reel) critical_place(reel)
        kept_pictures(reel,wait)""",
    "webs": """web_wait(web) critical_frame(web) kept(web,wait,told) most_kept(web,wait,order) least_kept(web,wait)
        keeping_order(web,wait) shore(web,wait,many) is_shore(web,wait,many,thing) trades(web)""",
    "gains": """greatest_gain(web,gains) best_sets(web,gains) shift(web,gains) is_shift(web,thing)
        shift_bound(web,gains,paper) is_best(web,gains,chosen,thing) thinned(web,worths,sizes,price)
        thinnings(web,worths,sizes)""",
    "plans": """is_plan(many,thing) plan_cost(costs,plan) least_plan_cost(costs) least_plan(costs)
        may_lean(costs,frame,other) hold(costs) is_hold(costs,thing) hold_sum(costs,paper)
        is_least_plan(costs,plan,thing) stuck(costs) costs_of(shape,frames,alone,leaning)
        planned(shape,frames,alone,leaning,plan) web_of(reel)""",
    "harm": """is_stretch(shape,memory,thing) shown(shape,memory,stretch,store) behind(shape,memory,stretch,store)
        between(shape,memory,stretch,low,high) right(shape,memory,stretch) looks(shape,memory,stretch,index,spot)
        harm(shape,memory,stretch,store,hurt) worst(shape,memory,stretch,store,hurt)
        spread(shape,memory,stretch,store,error) after_losses(shape,memory,stretch,store,lost)
        right_after(shape,memory,stretch,store,lost) enough(shape,memory,stretch,store,index) rests(shape,memory,stretch)
        is_rests(shape,memory,stretch,thing) dies_out(shape,memory,stretch)""",
    "renewals": """is_kept(shape,reach,renewals,thing) safe(shape,reach,renewals) spoiler(shape,reach,renewals,index,spot)
        least_renewals(shape,reach,pictures) barrier(shape,reach,pictures,most)
        is_barrier(shape,reach,pictures,most,thing) to_renew(shape,memory,stretch,store,lost,index)
        with_loop(shape,losses,planes) without_loop(shape,losses,planes) drift(shape,losses) worst_planes(shape,losses)
        heights(shape,memory,stretch,other)""",
    "buffers": """is_sending(sizes,rate,delay,hold,room,thing) sending(sizes,rate,delay,hold,room)
        strait(sizes,rate,delay,hold,room) is_strait(sizes,rate,delay,hold,room,thing) least_delay(sizes,rate,hold,room)
        least_hold(sizes,rate,delay,room) least_room(sizes,rate,delay,hold) least_line_rate(sizes,delay,hold,room)
        corners(sizes,rate) are_within(bounds,sizes) all_delay(bounds,rate) worst_sizes(bounds,rate,delay)
        all_room(bounds,rate) share(jobs,rate) is_share(jobs,rate,thing) crush(jobs,rate) is_crush(jobs,rate,thing)
        least_shared_rate(jobs)""",
    "pieces": "is_state(thing) reader_of(thing)",
    "stocks": """choice_cost(stock,wanted,chosen) staying(stock,wanted,chosen) least_cut(stock,wanted)
        cut_choices(stock,wanted) shares(stock,wanted) is_shares(stock,wanted,thing) floor_of(stock,wanted,paper)
        is_least_cut(stock,wanted,chosen,thing)""",
    "cuts": "stock_of(reel,head) cut(reel,wish,head) hidden(reel,wish,head) joined(one,other)",
    "looks": """row_play(shape,row,references) row_looks(shape,row,spot) hangs_on(shape,row,spot)
        meaning(shape,row,spot)""",
    "likeness": """alike(shape,one,other) parting(shape,one,other) is_parting(shape,one,other,thing)
        apart(shape,one,other) fewest_like(head,shape,row) like_prices(head,shape,row)
        is_like_prices(head,shape,row,thing) is_fewest_like(head,shape,row,telling,thing) strand(head,shape,row)
        is_strand(head,shape,row,thing)""",
    "lines": """least_pictures(reel,lot) greatest_pictures(reel,lot) rights(reel,lot) best_guess(reel,lot,number)
        Line(reel,rate,wait) wait_for(reel,rate,losses)""",
}
# The classes whose methods the document names, with the parameters of the methods.
METHODS = {
    ("pieces", "Reader"): """feed(bits) standing() loose() start() many_told() sight(number) shown() ending()
        doubt(number,spot) is_doubt(number,spot,thing) state()""",
    ("lines", "Line"): """send(number) tick() lose() undo() moment() there() busy() works() log() right() copy()
        hope(losses) advice(losses) strategy(losses) is_strategy(losses,number,thing) account(losses)
        is_account(losses,number,thing)""",
}
ORDER = ["errors", "checks", "bits", "grids", "guesses", "copies", "losses", "lifts", "heads", "tapes", "tellings", "choices",
         "fewest", "motion", "fields", "reels", "waits", "webs", "gains", "plans", "rules", "stretches", "harm", "renewals",
         "buffers", "pieces", "stocks", "cuts", "rows", "looks", "likeness", "games", "lines"]

PLANE = ((1, 4, 0), (1, 5, 0))
SHAPE = Shape(2, 3, 0, 9)
ALONE = Head(0, 0, 0, 0, (1, 2, 3, 4, 5, 0, 0, 0))
LEANING = Head(1, 0, 0, 1, (2, 0, 0, 0, 0, 2, 0, 2))
FLAT = (((0, 0, 8), ("flat", "none", ())),)
STILL = (((0, 0, 8), ("still",)),)
REEL = Reel(SHAPE, [(0, (), ALONE, FLAT), (1, (0,), LEANING, STILL)])
PAIR = Shape(1, 2, 0, 2)
PAIR_PLANE = ((0, 2),)
ROW = [(LEANING, (((0, 0, 8), ("copy", 0, (0, 1), "none", ())),))]
STRETCH = [(LEANING, STILL, (0,)), (LEANING, (((0, 0, 8), ("copy", 0, (1, 0), "none", ())),), (1,))]

# Values for the parameters, by their names; some modules take others.
VALUES = {
    "number": 3, "thing": "01", "many": 4, "grade": 2, "bits": head_bits(ALONE), "at": 0, "height": 2, "width": 3, "low": 0,
    "high": 9, "shape": SHAPE, "plane": PLANE, "way": "corner", "block": (0, 2, 2), "place": 1, "kind": 1, "mode": "left",
    "y": 1, "x": 2, "vector": (1, -1), "other": PLANE, "rest": 5, "loss": 2, "guess": 4, "level": 1, "sample": 9,
    "rectangle": PLANE, "lows": PLANE, "highs": PLANE, "upper": True, "reach": 1, "book": ALONE.book, "head": ALONE}
MORE_VALUES = {
    "tellings": {"thing": FLAT, "telling": FLAT, "references": [], "bits": "000"},
    "fewest": {"head": LEANING, "references": [PLANE], "telling": FLAT},
    "motion": {"now": PLANE, "then": ((4, 0, 1), (5, 0, 1)), "cut": ((0, 2, 2),), "least": 1},
    "fields": {"now": PLANE, "then": ((4, 0, 1), (5, 0, 1)), "size": 2, "price": 1, "field": ((0, 0), (1, 1))},
    "reels": {"entries": [(0, (), ALONE, FLAT)], "reel": REEL, "bits": reel_bits(REEL), "shows": (), "at": 33, "many": 2,
              "item": (1, (0,), LEANING, STILL), "references": [PLANE]},
    "waits": {"reel": REEL, "order": (0, 1), "wait": 1},
    "webs": {"web": [(), (0, 2), ()], "wait": 1, "told": (0, 2), "order": [0, 2, 1], "many": 1},
    "gains": {"web": [(), (0,)], "gains": [-3, 5], "paper": {(1, 0): 3}, "chosen": (0, 1), "worths": [1, 5], "sizes": [4, 2],
              "price": (1, 2)},
    "plans": {"costs": [[9, 2, None], [3, 8, 2], [7, 1, 9]], "plan": [1, 1, 1], "frame": 0, "other": 1,
              "paper": {(0,): 2, (1, 2): 1}, "frames": [PLANE, PLANE, PLANE], "alone": ALONE, "leaning": LEANING,
              "reel": REEL},
    "harm": {"memory": 2, "stretch": STRETCH, "store": [PLANE, PLANE], "low": [PLANE, PLANE], "high": [PLANE, PLANE],
             "index": 1, "spot": (1, 2), "hurt": ((0, 0, 1), (1, 1, 1)), "error": 2, "lost": (0,),
             "thing": ("apart", [PLANE, PLANE], [PLANE, PLANE])},
    "renewals": {"memory": 2, "stretch": STRETCH, "store": [PLANE, PLANE], "lost": (0,), "index": 1, "spot": (1, 2),
                 "reach": 2, "renewals": [((0, 0, 2),), ()], "pictures": 2, "most": 1, "losses": [1, 2],
                 "planes": [PLANE, PLANE, PLANE], "other": STRETCH, "thing": [[((0, 0), (1, 1))], []]},
    "buffers": {"sizes": [4, 1, 1], "rate": 2, "delay": 2, "hold": 9, "room": 9, "bounds": (5, 6, 2),
                "jobs": [([3, 1], 0, 2), ([2], 1, 1)], "thing": (0, 1)},
    "pieces": {"thing": ((), (), "01")},
    "stocks": {"stock": ([(), (0,), (1,)], [10, 2, 2], [10, 9, 9]), "wanted": (1, 2), "chosen": (1, 2),
               "paper": {(1, 0): 7}, "thing": {(1, 0): 7}},
    "cuts": {"reel": REEL, "wish": [1], "one": REEL, "other": REEL},
    "looks": {"row": ROW, "references": [PAIR_PLANE], "spot": (0, 1), "shape": PAIR},
    "likeness": {"row": ROW, "one": ROW, "other": ROW * 2, "shape": PAIR, "head": LEANING, "telling": STILL,
                 "thing": ((0, (0, 0)),)},
    "lines": {"reel": REEL, "lot": (1,), "number": 1, "rate": 20, "wait": 2, "losses": 1},
}


def emptied(thing):
    """Empty the lists and dicts of a result, at every depth."""
    if isinstance(thing, (list, tuple)):
        for part in thing:
            emptied(part)
    if isinstance(thing, dict):
        for part in thing.values():
            emptied(part)
    if isinstance(thing, (list, dict)):
        thing.clear()


def read_trees():
    return {path.stem: ast.parse(path.read_text(encoding="utf-8")) for path in sorted(PACKAGE.glob("*.py"))}


TREES = read_trees()


def trees():
    return TREES


def nodes(kind):
    return [(name, node) for name, tree in trees().items() for node in ast.walk(tree) if isinstance(node, kind)]


class Interface(unittest.TestCase):
    def test_names_and_parameters(self):
        for module, told in INTERFACE.items():
            found = importlib.import_module(f"pricedreels.{module}")
            for word in told.split():
                name, parameters = word.rstrip(")").split("(")
                thing = getattr(found, name)
                signature = inspect.signature(thing)
                self.assertEqual(list(signature.parameters), parameters.split(","), word)
                for parameter in signature.parameters.values():
                    self.assertEqual(parameter.kind, parameter.POSITIONAL_OR_KEYWORD, word)
                    self.assertIs(parameter.default, parameter.empty, word)
                self.assertEqual(thing.__module__, f"pricedreels.{module}")

    def test_by_position_and_by_name(self):
        for module, told in INTERFACE.items():
            values = {**VALUES, **MORE_VALUES.get(module, {})}
            for word in told.split():
                name, parameters = word.rstrip(")").split("(")
                call = getattr(importlib.import_module(f"pricedreels.{module}"), name)
                named = {parameter: values[parameter] for parameter in reversed(parameters.split(","))}
                kept = copy.deepcopy(named)
                expected = call(*[values[parameter] for parameter in parameters.split(",")])
                self.assertEqual(call(**named), expected, word)
                self.assertEqual(named, kept, word)

    def test_what_is_returned_is_new(self):
        for module, told in INTERFACE.items():
            values = {**VALUES, **MORE_VALUES.get(module, {})}
            for word in told.split():
                name, parameters = word.rstrip(")").split("(")
                call = getattr(importlib.import_module(f"pricedreels.{module}"), name)
                arguments = [values[parameter] for parameter in parameters.split(",")]
                found = call(*arguments)
                kept = copy.deepcopy(found)
                emptied(found)
                self.assertEqual(call(*arguments), kept, word)

    def test_classes_have_their_methods_themselves(self):
        for module, name in (("grids", "Shape"), ("heads", "Head"), ("reels", "Reel"), ("pieces", "Reader"),
                             ("lines", "Line")):
            found = getattr(importlib.import_module(f"pricedreels.{module}"), name)
            self.assertEqual(found.__module__, f"pricedreels.{module}")
            self.assertIn("__eq__", vars(found))
            self.assertIn("__init__", vars(found))
            self.assertEqual("__len__" in vars(found), name in ("Reel", "Line"))
            for word in METHODS.get((module, name), "").split():
                method, parameters = word.rstrip(")").split("(")
                signature = inspect.signature(vars(found)[method])
                self.assertEqual(",".join(list(signature.parameters)[1:]), parameters, word)
                for parameter in signature.parameters.values():
                    self.assertEqual(parameter.kind, parameter.POSITIONAL_OR_KEYWORD, word)
                    self.assertIs(parameter.default, parameter.empty, word)

    def test_the_package_itself_defines_nothing(self):
        tree = ast.parse((PACKAGE / "__init__.py").read_text(encoding="utf-8"))
        self.assertTrue(all(isinstance(node, ast.Expr) and isinstance(node.value, ast.Constant) for node in tree.body))


class Language(unittest.TestCase):
    def test_files(self):
        found = sorted(path.name for path in PACKAGE.iterdir() if path.name != "__pycache__")
        self.assertEqual(found, sorted(["__init__.py"] + [f"{name}.py" for name in ORDER]))
        for path in PACKAGE.glob("*.py"):
            text = path.read_text(encoding="utf-8")
            self.assertTrue(all(" " <= sign <= "~" or sign == "\n" for sign in text), path)
            lines = text.split("\n")
            self.assertLessEqual(len(lines), 400, path)
            self.assertLessEqual(max(len(line) for line in lines), 120, path)

    def test_functions_are_short(self):
        for module, node in nodes(ast.FunctionDef):
            self.assertLessEqual(node.end_lineno - node.lineno + 1, 40, (module, node.name))
            self.assertEqual(node.decorator_list, [])

    def test_imports_come_from_modules_ahead(self):
        self.assertEqual(nodes(ast.Import), [])
        for module, node in nodes(ast.ImportFrom):
            if node.module == "math":
                self.assertEqual([(alias.name, alias.asname) for alias in node.names], [("gcd", None)])
                continue
            package, name = node.module.split(".")
            self.assertEqual((package, node.level), ("pricedreels", 0))
            self.assertLess(ORDER.index(name), ORDER.index(module))
            defined = {part.name for part in trees()[name].body if isinstance(part, (ast.FunctionDef, ast.ClassDef))}
            defined |= {part.targets[0].id for part in trees()[name].body if isinstance(part, ast.Assign)}
            self.assertTrue(defined.issuperset(alias.name for alias in node.names), module)

    def test_what_the_language_leaves_out(self):
        barred = (ast.GeneratorExp, ast.Yield, ast.Global, ast.AsyncFunctionDef, ast.Await, ast.Div, ast.Pow,
                  ast.AnnAssign, ast.MatMult)
        self.assertEqual(nodes(barred), [])
        for module, node in nodes(ast.Constant):
            self.assertNotIsInstance(node.value, (float, complex), module)
        allowed = {"len", "range", "enumerate", "zip", "min", "max", "sum", "abs", "sorted", "reversed", "int", "str", "bool",
                   "list", "tuple", "dict", "isinstance", "all", "any", "ValueError", "super"}
        for module, node in nodes(ast.Name):
            if hasattr(builtins, node.id):
                self.assertIn(node.id, allowed, module)
                self.assertIsInstance(node.ctx, ast.Load, module)

    def test_imported_names_are_used_and_mean_one_thing(self):
        for module, tree in trees().items():
            names = [alias.name for node in tree.body if isinstance(node, ast.ImportFrom) for alias in node.names]
            used = {node.id for node in ast.walk(tree) if isinstance(node, ast.Name) and isinstance(node.ctx, ast.Load)}
            bound = {node.id for node in ast.walk(tree) if isinstance(node, ast.Name) and isinstance(node.ctx, ast.Store)}
            bound |= {node.arg for node in ast.walk(tree) if isinstance(node, ast.arg)}
            self.assertEqual([name for name in names if name not in used or name in bound], [], module)
            self.assertEqual([name for name in bound if hasattr(builtins, name)], [], module)
            classes = {node.name for node in tree.body if isinstance(node, ast.ClassDef)}
            self.assertFalse(bound & classes, module)

    def test_names_in_comprehensions_within_others(self):
        kinds = (ast.ListComp, ast.DictComp, ast.SetComp)
        for module, node in nodes(ast.FunctionDef):
            inner = {part for whole in ast.walk(node) if isinstance(whole, kinds)
                     for part in ast.walk(whole) if isinstance(part, kinds) and part is not whole}
            for part in inner:
                names = {name.id for line in part.generators for name in ast.walk(line.target) if isinstance(name, ast.Name)}
                self.assertFalse(names & (assigned(node) - {"_"}), (module, node.name))

    def test_what_is_iterated_at_once(self):
        # A range, a zip and the like stand behind an "in", or in what goes over them at once.
        takers = {"list", "tuple", "dict", "sorted", "sum", "any", "all", "enumerate", "zip", "reversed", "len", "min", "max"}
        for module, tree in trees().items():
            parents = {child: node for node in ast.walk(tree) for child in ast.iter_child_nodes(node)}
            for node in ast.walk(tree):
                called = node.func if isinstance(node, ast.Call) else None
                name = getattr(called, "id", None) or getattr(called, "attr", None)
                if name in ("range", "zip", "enumerate", "reversed", "items", "values", "keys"):
                    above = parents[node]
                    if isinstance(above, ast.Call):
                        self.assertIn(getattr(above.func, "id", None), takers, (module, node.lineno))
                    else:
                        self.assertIsInstance(above, (ast.For, ast.comprehension), (module, node.lineno))

    def test_words_that_are_left_out(self):
        barred = {"register", "mro", "elements", "open", "input", "law", "type", "typing", "enum", "dataclass", "id", "eval",
                  "exec", "exit", "dir", "vars", "globals", "locals", "help", "compile", "license", "copyright", "quit",
                  "delattr", "getattr", "hasattr", "setattr", "sort", "format", "encode", "decode", "hex"}
        for module, tree in trees().items():
            for node in ast.walk(tree):
                names = [getattr(node, part, None) for part in ("id", "attr", "arg", "name")]
                self.assertFalse(barred & {name for name in names if isinstance(name, str)}, module)
                if isinstance(node, ast.Constant) and isinstance(node.value, str):
                    self.assertNotIn("%", node.value, module)
                    self.assertFalse(node.value.startswith("__"), module)


def assigned(function):
    """The names that a function assigns, but for those of its comprehensions."""
    found, waiting = {argument.arg for argument in function.args.args}, list(function.body)
    while waiting:
        node = waiting.pop()
        if isinstance(node, (ast.ListComp, ast.DictComp, ast.SetComp)):
            continue
        if isinstance(node, ast.Name) and isinstance(node.ctx, ast.Store):
            found.add(node.id)
        waiting.extend(ast.iter_child_nodes(node))
    return found


if __name__ == "__main__":
    unittest.main()
