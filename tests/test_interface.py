import ast
import contextlib
import io
import pathlib
import unittest

import samecells
import samecells.desk
from helper import ARITY, EDGES, NAMES, drawn, flat, modelled, rows, run, source, split

CALLS = flat([
    *rows([1, 2, 3, 4], [3, 4, 1, 2], 2), ("take",), ("found",), ("ahead", 0), ("ring",), ("best",), ("choice",),
    ("order",), ("sent",), ("done",), ("careless",), ("ifroom", 0), ("leastroom",), ("without", 1), ("room", 1),
    ("longest", 1), ("told", 1), ("rows",), ("drop", 1), ("copy", 0, 2, 2), ("copy", 0, 2, 2), ("fits", 1),
    ("begin", 0, 0, 0), ("old", 9, 9), ("ifroom", 17), ("without", 7), ("room", 17), ("longest", 16), ("told", 7),
])


class Untouchable(list):
    """A list that can't be changed, not for a while either."""

    def refuse(self, *args, **kwargs):
        raise AssertionError("what was handed in is changed")

    __setitem__ = __delitem__ = __iadd__ = __imul__ = refuse
    append = extend = insert = pop = remove = reverse = sort = clear = refuse


class Answers(unittest.TestCase):
    def test_how_many_numbers_and_then_these(self):
        self.assertEqual(samecells.desk.answers([5, 0, 2, 2, 0, 3, 0, 1, 1, 3, 1, 0, 1, 8, 0, 11, 10, 0, 17, 1, 1]),
                         [1, -11, 1, 0, 1, 1, 1, 1, 2, 1, 1, 3, 2, 0, 2, 2, 1, 0, 1, -22])

    def test_each_call_takes_its_own_numbers(self):
        for name in ARITY:
            if name != "begin":
                calls = [(name, *[4] * ARITY[name]), ("begin", 1, 1, 0), ("best",)]
                self.assertEqual(run(*calls), [[-11], [0], [1, 0]], name)

    def test_it_gives_back_whole_numbers(self):
        given = samecells.desk.answers(CALLS)
        self.assertIs(type(given), list)
        self.assertEqual({type(number) for number in given}, {int})

    def test_sixty_calls(self):
        self.assertEqual(run(("begin", 16, 16, 16), *[("choice",)] * 59), [[0]] * 60)

    def test_a_refusal_is_one_number_alone(self):
        for answer in split(samecells.desk.answers(CALLS)):
            self.assertTrue(min(answer) >= 0 or len(answer) == 1, answer)

    def test_what_is_handed_in_stays(self):
        handed = list(CALLS)
        given = samecells.desk.answers(handed)
        self.assertEqual(handed, CALLS)
        self.assertEqual(samecells.desk.answers(Untouchable(CALLS)), given)

    def test_nothing_is_kept(self):
        given = samecells.desk.answers(CALLS)
        self.assertEqual(samecells.desk.answers(CALLS), given)
        self.assertEqual(samecells.desk.answers([10]), [1, -11])
        given.append(5)
        self.assertEqual(samecells.desk.answers(CALLS), given[:-1])

    def test_nothing_is_printed(self):
        out, err = io.StringIO(), io.StringIO()
        with contextlib.redirect_stdout(out), contextlib.redirect_stderr(err):
            samecells.desk.answers(CALLS)
        self.assertEqual((out.getvalue(), err.getvalue()), ("", ""))


class Files(unittest.TestCase):
    files = sorted(pathlib.Path(samecells.__file__).parent.glob("**/*.py"))

    def test_nothing_is_imported_but_its_own(self):
        for file in self.files:
            for node in ast.walk(ast.parse(file.read_text())):
                self.assertNotIsInstance(node, ast.Import, file)
                if isinstance(node, ast.ImportFrom):
                    self.assertEqual((node.level, node.module.split(".")[0]), (0, "samecells"), file)

    def test_nothing_is_printed_or_read(self):
        for file in self.files:
            names = {node.id for node in ast.walk(ast.parse(file.read_text())) if isinstance(node, ast.Name)}
            self.assertFalse(names & {"print", "open", "input", "eval", "exec", "__import__"}, file)

    def test_sizes_and_signs(self):
        for file in self.files:
            text = file.read_text()
            self.assertLessEqual(len(text.splitlines()), 400, file)
            self.assertLessEqual(max(len(line) for line in text.splitlines()), 120, file)
            self.assertTrue(all(" " <= sign <= "~" or sign == "\n" for sign in text), file)
            for node in ast.walk(ast.parse(text)):
                if isinstance(node, ast.FunctionDef):
                    self.assertLessEqual(node.end_lineno - node.lineno + 1, 40, (file, node.name))


class AgainstTheModel(unittest.TestCase):
    def check(self, calls):
        self.assertEqual(run(*calls), modelled(calls), calls)

    def test_the_edges_wherever_a_number_is_handed_in(self):
        before = [*rows([1, 2, 3, 4], [3, 4, 1, 2], 2), ("copy", 0, 2, 1), ("copy", 2, 0, 2)]
        behind = [("rows",), ("told", 0), ("told", 1), ("found",), ("ring",), ("choice",), ("done",), ("room", 0)]
        for name in NAMES:
            for place in range(ARITY[name]):
                for usual in (0, 1, 3, 16) if ARITY[name] > 1 else (0,):
                    for edge in EDGES:
                        numbers = [usual] * ARITY[name]
                        numbers[place] = edge
                        self.check([*before, (name, *numbers), *behind])

    def call(self, chance, name):
        numbers = [chance.choice((0, 1, 2, 3, chance.randrange(18))) for i in range(ARITY[name])]
        if chance.random() < 0.03 and numbers:
            numbers[chance.randrange(len(numbers))] = chance.choice(EDGES)
        return (name, *numbers)

    def test_many_lists_of_calls(self):
        chance = source("calls")
        for turn in range(300):
            calls = [self.call(chance, "begin")] if chance.random() < 0.2 else []
            cells = chance.choice((4, 8, 16))
            calls += [("begin", cells, chance.choice((cells, 5, 16)), chance.randrange(4))]
            calls += [(chance.choice(("old", "want")), chance.randrange(cells), chance.randrange(3)) for i in range(20)]
            names = NAMES[1:] + ("copy",) * 16
            calls += [self.call(chance, chance.choice(names)) for i in range(28)]
            calls += [("begin", 1, 1, 1)] if chance.random() < 0.1 else []
            calls += [("ring",), ("best",), ("choice",), ("found",), ("rows",)]
            self.check(calls)

    def test_many_lists_of_calls_on_copies_that_fit(self):
        chance = source("fitting copies")
        for turn in range(200):
            calls = drawn(chance)
            calls += [self.call(chance, chance.choice(NAMES[1:])) for i in range(18)]
            self.check(calls)

    def test_all_that_is_asked_of_copies_that_fit(self):
        chance = source("asked")
        for turn in range(150):
            asked = [(name, *[chance.randrange(8)] * ARITY[name]) for name in NAMES[7:]]
            chance.shuffle(asked)
            self.check([*drawn(chance), *asked])


if __name__ == "__main__":
    unittest.main()
