"""The names, arguments and defaults of the interface, and the sizes and imports of the files."""

import ast
import unittest
from importlib import import_module
from inspect import isfunction, signature
from pathlib import Path

PACKAGE = Path(__file__).resolve().parent.parent / "untaughthelm"

FUNCTIONS = {
    "ratios": """is_whole(thing, low=None, high=None); is_ratio(thing); make_ratio(top, bottom=1);
        ratio_plus(one, other); ratio_minus(one, other); ratio_times(one, other); ratio_over(one, other);
        ratio_negative(one); ratio_size(one); compare_ratios(one, other); least_ratio(things);
        greatest_ratio(things); ratio_text(one); parse_ratio(text)""",
    "fields": "same_field(one, other)",
    "rows": """zero_row(width); unit_row(width, place); unit_table(width); row_plus(field, one, other);
        row_minus(field, one, other); row_times(field, number, row); dot(field, one, other);
        table_row(field, table, row); row_table(field, row, table, width=None); table_table(field, one, other);
        table_plus(field, one, other); turned(table)""",
    "spans": "solve(field, table, goal); inverse(field, table)",
    "planttext": "plant_text(plant); parse_plant(text)",
    "reaches": """drift(plant, x, ticks); responses(plant, ticks); reach(plant, ticks); nulls(plant, ticks);
        hull(plant, start); input_rank(plant); longest(plant); uncontrolled(plant);
        puts_to(plant, start, goal, ticks)""",
    "unlike": "missed(record, plant); fitting_plant(record); reply(record, x, u); unlike(record, x, u)",
    "escapes": "falling(record); find_escape(record)",
    "onelaw": "one_law(record)",
    "wrongrows": """fitting_lots(record, wrong); sure_reply(record, wrong, x, u); loose(record, wrong);
        disguise(record, wrong)""",
    "learning": "learn(plant, start); learning_fault(field, size, inputs, learning)",
    "lateasking": "learning_ticks(size, inputs, late); learn_late(plant, start, late)",
    "polynomials": """trimmed(row); poly_plus(field, one, other); poly_times(field, one, other);
        poly_rest(field, one, by); common_divisor(field, polys)""",
    "aheadrows": """least_length(size, inputs); deep_rank(field, inputs, puts, depth); made_row(field, size, inputs);
        finished_row(field, size, inputs, puts); deep_weights(field, size, inputs, puts);
        unlearnt(field, size, inputs, puts); unlearnt_fault(field, size, inputs, puts, told)""",
    "samplelines": "memory(size, samples)",
    "unseen": "next_output(field, size, inputs, samples); twin_line(line, samples)",
    "ways": """known_reply(field, kept, x, u); way_back(field, kept, flat); ways(field, kept, goal, ticks);
        inputs_to(field, inputs, kept, x, flat)""",
    "reaching": """reach_ticks(size, inputs, rank);
        never_fault(field, inputs, kept, state, goal, ticks, never)""",
    "programs": "minimize(costs, constraints); minimum_fault(costs, constraints, told)",
    "fits": """list_lots(fit); lot_of(fit, plant); some_plant(fit, lot); find_ends(fit, state, x, u)""",
    "keeping": "keep(fit, box, bounds)",
    "sizes": "kept_sizes(fit, box, bounds)",
    "keepjudges": "keeper_fault(fit, box, bounds, told); lost_fault(fit, box, bounds, told)",
    "schedules": "run_schedule(schedule, start, puts, pushes=())",
    "changing": "rest_ticks(size, inputs, rank, exchanges); unrest_ticks(size, inputs, rank, exchanges, pushes)",
    "storytext": "story_text(story); parse_story(text)",
    "desk": "retell_story(story)",
}

CLASSES = {
    ("fields", "Field"): """__init__(self, prime=None); number(self, top, bottom=1); plus(self, one, other);
        minus(self, one, other); times(self, one, other); over(self, one, other); negative(self, one);
        parse(self, text); holds(self, thing); holds_row(self, thing, width); text(self, number);
        __eq__(self, other)""",
    ("spans", "Span"): """__init__(self, field, width, rows=()); with_row(self, row); is_new(self, row);
        weights(self, row); echelon(self); silent_rows(self); __eq__(self, other)""",
    ("plants", "Plant"): """__init__(self, field, a, b); step(self, x, u); run(self, start, puts);
        steps(self, start, puts); with_law(self, table); mixed(self, table, input_table=None);
        __eq__(self, other)""",
    ("records", "Record"): """__init__(self, field, size, inputs, rows=()); with_row(self, x, u, y);
        weights(self, x, u); quarrel(self); joined(self, other); cut(self, low, high); without(self, lot);
        of_run(cls, plant, start, puts); __len__(self); __iter__(self); __eq__(self, other)""",
    ("escapes", "Escape"): "__init__(self, plant, rows, table); __eq__(self, other)",
    ("onelaw", "OneLaw"): "__init__(self, table, spaces); __eq__(self, other)",
    ("onelaw", "Silent"): "__init__(self, row); __eq__(self, other)",
    ("onelaw", "Shadow"): "__init__(self, plant, rows, table); __eq__(self, other)",
    ("wrongrows", "Disguise"): "__init__(self, record, plant, lot, other, other_lot); __eq__(self, other)",
    ("asking", "Asker"): """__init__(self, field, size, inputs, kept=()); ask(self, x); hear(self, x, u, y);
        reply(self, x, u); known(self); closed(self, x); __eq__(self, other)""",
    ("learning", "Learning"): "__init__(self, puts, states, space, table); __eq__(self, other)",
    ("lateasking", "LateAsker"): """__init__(self, field, size, inputs, late, start=None); hear(self, shown=None);
        __eq__(self, other)""",
    ("latefoes", "LateFoe"): """__init__(self, field, size, late, puts=()); put(self, u); tie(self); start(self);
        plant(self); unlike(self); __eq__(self, other)""",
    ("aheadrows", "Unlearnt"): "__init__(self, plant, start, silent, other); __eq__(self, other)",
    ("samplelines", "Line"): """__init__(self, field, outs, ins); common_part(self); plant(self);
        own_state(self, samples); outputs(self, start, puts); misses(self, samples); __eq__(self, other)""",
    ("unseen", "UnseenAsker"): """__init__(self, field, size, inputs, samples=()); hear(self, y); line(self);
        __eq__(self, other)""",
    ("ways", "Flat"): "__init__(self, field, point, directions=()); holds(self, row); __eq__(self, other)",
    ("reaching", "Never"): "__init__(self, space, rows); __eq__(self, other)",
    ("reaching", "Reacher"): """__init__(self, field, size, inputs, rank, goal, start, *, first=None); hear(self, y);
        __eq__(self, other)""",
    ("reachfoes", "ReachFoe"): """__init__(self, field, size, inputs, rank, start, goal); put(self, u); plant(self);
        __eq__(self, other)""",
    ("programs", "Optimum"): "__init__(self, point, weights); __eq__(self, other)",
    ("programs", "Infeasible"): "__init__(self, weights); __eq__(self, other)",
    ("programs", "Unbounded"): "__init__(self, point, ray); __eq__(self, other)",
    ("fits", "Prior"): "__init__(self, state, parts, low, high); __eq__(self, other)",
    ("fits", "Fit"): "__init__(self, record, pushes, priors=(), wrong=0); __eq__(self, other)",
    ("fits", "End"): "__init__(self, value, lot, plant, ray); __eq__(self, other)",
    ("fits", "Ends"): "__init__(self, low, high); __eq__(self, other)",
    ("boxes", "Box"): """__init__(self, low, high); corners(self); corner(self, digits); holds(self, x);
        __eq__(self, other)""",
    ("boxes", "Bounds"): "__init__(self, low, high); holds(self, u); __eq__(self, other)",
    ("boxes", "Keeper"): "__init__(self, box, inputs); choose(self, x); __eq__(self, other)",
    ("keeping", "Blow"): "__init__(self, lot, plant, state, side); __eq__(self, other)",
    ("keeping", "Stop"): "__init__(self, place, side); __eq__(self, other)",
    ("keeping", "Lost"): "__init__(self, corner, blows, weights); __eq__(self, other)",
    ("sizes", "Sizes"): "__init__(self, least, greatest); __eq__(self, other)",
    ("changing", "Stretch"): "__init__(self, begin, end, why); __eq__(self, other)",
    ("changing", "Changer"): """__init__(self, field, size, inputs, rank, start, pushed=False); hear(self, y);
        __eq__(self, other)""",
    ("changefoes", "ChangeFoe"): """__init__(self, field, size, inputs, rank, start, exchanges); put(self, u);
        tell_schedule(self); __eq__(self, other)""",
    ("stories", "Story"): "__init__(self, field, size, inputs, deeds); __eq__(self, other)",
    ("desk", "Desk"): """__init__(self, field, size, inputs); take_deed(self, deed); tell_story(self);
        tried(self, call); __eq__(self, other)""",
}


def told_calls(text):
    for told in text.split(";"):
        name, bracket, rest = told.strip().partition("(")
        yield name, bracket + rest


def files():
    return sorted(PACKAGE.rglob("*.py"))


class Interface(unittest.TestCase):
    def test_functions(self):
        for module, text in FUNCTIONS.items():
            for name, arguments in told_calls(text):
                with self.subTest(name):
                    function = getattr(import_module("untaughthelm." + module), name)
                    self.assertTrue(isfunction(function))
                    self.assertEqual(function.__module__, "untaughthelm." + module)
                    self.assertEqual(str(signature(function)), arguments)

    def test_classes(self):
        for (module, name), text in CLASSES.items():
            told = getattr(import_module("untaughthelm." + module), name)
            self.assertEqual(told.__module__, "untaughthelm." + module)
            for method, arguments in told_calls(text):
                with self.subTest(name + "." + method):
                    found = vars(told)[method]
                    if isinstance(found, classmethod):
                        found = found.__func__
                    self.assertEqual(str(signature(found)), arguments)


class Files(unittest.TestCase):
    def test_there_is_nothing_but_python_files(self):
        for path in PACKAGE.rglob("*"):
            if path.is_file() and path.parent.name != "__pycache__":
                self.assertEqual(path.suffix, ".py")

    def test_sizes_and_characters(self):
        for path in files():
            text = path.read_text(encoding="utf-8")
            lines = text.split("\n")
            self.assertLessEqual(len(lines), 400, path)
            self.assertLessEqual(max(len(line) for line in lines), 120, path)
            self.assertTrue(all(sign == "\n" or " " <= sign <= "~" for sign in text), path)
            for node in ast.walk(ast.parse(text)):
                if isinstance(node, ast.FunctionDef):
                    self.assertLessEqual(node.end_lineno - node.lineno + 1, 40, node.name)

    def test_imports(self):
        for path in files():
            for node in ast.walk(ast.parse(path.read_text(encoding="utf-8"))):
                self.assertNotIsInstance(node, ast.Import)
                if isinstance(node, ast.ImportFrom):
                    self.assertEqual(node.level, 0)
                    if node.module == "math":
                        self.assertTrue({name.name for name in node.names} <= {"gcd", "lcm"})
                    else:
                        self.assertTrue(node.module.startswith("untaughthelm."), node.module)


if __name__ == "__main__":
    unittest.main()
