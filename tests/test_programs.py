"""[25] to [27]: the parts of programs, and which programs are legal."""

import unittest
from random import Random

from levelwalks.errors import BadForm, Illegal, NotAnAccess, NotAnExpression, RepeatedLetter
from levelwalks.expressions import access, number
from levelwalks.forms import Form
from levelwalks.functions import equal
from levelwalks.programs import Add, Block, Loop, Program, Use, check
from tests.helper import KINDS, NOTHING, ONE, each, gains, is_deep_tuple, model_fits, model_leads, model_of, use


def illegal_place(program):
    """The place that the error tells, or None if the program is legal."""
    try:
        check(program)
    except Illegal as error:
        return error.place
    return None


class UseTest(unittest.TestCase):
    def test_attributes(self):
        form = Form("packed", "hashed", axes=(1, 0))
        for made in (Use("a", ("k", "i"), form), Use("a", ["k", "i"], form), Use(form=form, letters=["k", "i"], name="a")):
            self.assertEqual((made.name, made.letters), ("a", ("k", "i")))
            self.assertIs(type(made.letters), tuple)
            self.assertEqual((made.form.kinds, made.form.axes), (form.kinds, form.axes))
        self.assertEqual(Use("s", (), Form()).letters, ())
        self.assertEqual(Use("t", ["z", "a", "m"], Form("dense", "bits", "packed")).letters, ("z", "a", "m"))

    def test_later_changes_have_no_effect(self):
        letters = ["k", "i"]
        made = Use("a", letters, Form("dense", "dense"))
        letters.append("z")
        letters[0] = "y"
        self.assertEqual(made.letters, ("k", "i"))

    def test_repeated_letters_come_first(self):
        for letters, letter in (("ii", "i"), ("kii", "i"), ("iki", "i"), ("kki", "k"), ("zzz", "z")):
            for form in (Form(), Form("dense", "packed"), Form("dense", "bits", "packed")):
                for given in (tuple(letters), list(letters)):
                    with self.assertRaises(RepeatedLetter) as caught:
                        Use("a", given, form)
                    self.assertEqual(caught.exception.letter, letter)

    def test_wrong_forms(self):
        forms = (Form(), Form("dense"), Form("bits", "packed"), Form("hashed", "dense", "dense"))
        for letters in ("", "i", "ki", "abz"):
            for form in forms:
                if len(form.kinds) == len(letters):
                    self.assertEqual(Use("a", tuple(letters), form).form.kinds, form.kinds)
                else:
                    with self.assertRaises(BadForm):
                        Use("a", tuple(letters), form)


class NodesTest(unittest.TestCase):
    def test_loops(self):
        for leaders, cases in (
            ([], []), ([[]], []), ([[0, 1], [2]], [[[0], ONE], [[], NOTHING]]), (((3,), []), (([1, 2], ONE),)),
            (([0], (1,)), [((), ONE), [(0, 1), ONE]]),
        ):
            made = Loop("i", leaders, cases)
            self.assertEqual(made.letter, "i")
            self.assertTrue(isinstance(made.leaders, tuple) and is_deep_tuple(made.leaders))
            self.assertEqual(made.leaders, tuple(tuple(group) for group in leaders))
            self.assertTrue(isinstance(made.cases, tuple) and all(isinstance(case, tuple) for case in made.cases))
            self.assertEqual([case[0] for case in made.cases], [tuple(case[0]) for case in cases])
            self.assertTrue(all(case[1] is given[1] for case, given in zip(made.cases, cases)))

    def test_by_keyword(self):
        made = Loop(cases=[((0,), ONE)], leaders=[[0]], letter="z")
        self.assertEqual((made.letter, made.leaders, made.cases), ("z", ((0,),), (((0,), ONE),)))
        self.assertEqual(Block(nodes=[ONE, NOTHING]).nodes, (ONE, NOTHING))
        self.assertEqual(Add(expression=number(4)).expression.text, "4")
        self.assertEqual(Program(node=ONE, uses=[], target=access("c")).target.text, "c[]")

    def test_blocks(self):
        for nodes in ([], (), [ONE], (ONE, NOTHING), [ONE, ONE, each("i", ONE)]):
            made = Block(nodes)
            self.assertIs(type(made.nodes), tuple)
            self.assertEqual(made.nodes, tuple(nodes))

    def test_later_changes_have_no_effect(self):
        group, needs, nodes = [0], [1], [ONE]
        leaders, case = [group], [needs, ONE]
        cases = [case]
        loop, block = Loop("i", leaders, cases), Block(nodes)
        for given in (group, needs):
            given.append(5)
        case[1] = NOTHING
        leaders.append([7])
        cases.append([[], ONE])
        nodes.clear()
        self.assertEqual((loop.leaders, loop.cases, block.nodes), (((0,),), (((1,), ONE),), (ONE,)))
        self.assertEqual((len(leaders), len(cases)), (2, 2))

    def test_adds(self):
        for expression in (number(3), access("a", "i"), equal(access("a"), 2)):
            self.assertIs(Add(expression).expression, expression)
        for wrong in gains():
            with self.assertRaises(NotAnExpression):
                Add(wrong)


class ProgramTest(unittest.TestCase):
    def test_attributes(self):
        a, b = use("a", "kz", "dense 0, packed 1"), use("b", "i", "bits 0")
        for uses in ((), [], (a,), [b, a], [a, a], (b, a, b)):
            made = Program(access("c", "z", "j"), uses, ONE)
            self.assertEqual(model_of(made.target), ("access", "c", ("z", "j")))
            self.assertIs(type(made.uses), tuple)
            self.assertEqual(made.uses, tuple(uses))
            self.assertIs(made.node, ONE)
            letters = {"z", "j"} | {letter for each_use in uses for letter in each_use.letters}
            self.assertEqual(made.letters, tuple(sorted(letters)))
            self.assertIs(type(made.letters), tuple)

    def test_letters_of_the_expressions_do_not_count(self):
        self.assertEqual(Program(access("c"), (), Add(access("a", "i"))).letters, ())
        self.assertEqual(Program(access("c"), (use("a", "i", "dense 0"),), each("ik", ONE)).letters, ("i",))

    def test_later_changes_have_no_effect(self):
        uses = [use("a", "i", "dense 0")]
        made = Program(access("c"), uses, ONE)
        uses.append(use("b", "k", "dense 0"))
        self.assertEqual((len(made.uses), made.letters), (1, ("i",)))

    def test_wrong_targets(self):
        for wrong in (number(3), access("a") + 1, -access("a"), equal(access("a"), 1), access("a") ** 1, *gains()):
            with self.assertRaises(NotAnAccess):
                Program(wrong, (), ONE)

    def test_nothing_else_is_checked(self):
        made = Program(access("c"), (), Loop("q", ((9,), (-1,)), (((7, 7), Loop("q", (), ())),)))
        self.assertEqual(made.node.leaders, ((9,), (-1,)))


class LegalTest(unittest.TestCase):
    def check_legal(self, target, uses, node):
        program = Program(target, uses, node)
        before = (program.target, program.uses, program.node, program.letters)
        self.assertIsNone(check(program))
        self.assertIsNone(check(program=program))
        self.assertEqual((program.target, program.uses, program.node, program.letters), before)

    def test_the_example(self):
        uses = (use("a", "ik", "dense 0, packed 1"), use("b", "k", "packed 0"))
        inside = Loop("k", ((0, 1),), (((0, 1), Add(access("a", "i", "k") * access("b", "k"))),))
        self.check_legal(access("c", "i"), uses, each("i", inside))

    def test_programs_without_adds(self):
        c = access("c", "i")
        for node in (
            NOTHING, Block((NOTHING, NOTHING)), Loop("i", (), ()), Loop("i", ((),), ()), Loop("i", (), (((), NOTHING),)),
            Loop("i", ((), ()), (((), NOTHING), ((), NOTHING))), Block((Loop("i", (), ()), Loop("i", ((),), ()))),
        ):
            self.check_legal(c, (), node)

    def test_without_letters(self):
        self.check_legal(access("c"), (), ONE)
        self.check_legal(access("c"), (use("s", ""), use("c", "")), Add(access("s") + access("c")))
        self.check_legal(access("c"), (use("s", ""),), Block((ONE, Block((ONE, Add(access("s")))))))

    def test_an_empty_group_beside_others(self):
        uses = (use("a", "i", "packed 0"), use("b", "i", "bits 0"))
        self.check_legal(access("c"), uses, Loop("i", ((), (0,), (0, 1), (1,)), (((0, 1), ONE), ((), ONE))))

    def test_one_node_at_several_places(self):
        add = Add(access("a", "i"))
        uses = (use("a", "i", "hashed 0"),)
        case = ((0,), Block((add, add)))
        self.check_legal(access("c"), uses, Block((Loop("i", ((),), (case, case)), Loop("i", ((),), (((), add),)))))

    def test_a_level_of_each_kind_in_the_order_of_the_loops(self):
        for kind in KINDS:
            for first in KINDS:
                uses = (use("a", "ik", f"{first} 0, {kind} 1"),)
                self.check_legal(access("c"), uses, each("ik", Add(access("a", "i", "k"))))
                uses = (use("a", "ki", f"{first} 1, {kind} 0"),)
                self.check_legal(access("c"), uses, each("ik", Add(access("a", "k", "i"))))

    def test_levels_that_are_not_packed_in_another_order(self):
        for kind in ("dense", "bits", "hashed"):
            for first in KINDS:
                uses = (use("a", "ik", f"{first} 0, {kind} 1"),)
                self.check_legal(access("c"), uses, each("ki", Add(access("a", "i", "k"))))

    def test_needs_that_fit_inside_the_cases_but_not_at_the_loop(self):
        # In the loop over k the packed level is not resolved as long as i is not bound.
        uses = (use("a", "ik", "dense 0, packed 1"), use("b", "ki", "dense 0, dense 1"))
        self.check_legal(access("c"), uses, each("k", Loop("i", ((1,),), (((1,), NOTHING),))))
        uses = (use("a", "ik", "packed 0, packed 1"),)
        self.check_legal(access("c"), uses, Loop("i", ((0,),), (((0,), each("k", Add(access("a", "i", "k")))),)))

    def test_a_second_use_that_fits(self):
        a = access("a", "i", "k")
        wrong, right = use("a", "ik", "dense 0, packed 1"), use("a", "ik", "dense 1, packed 0")
        self.check_legal(access("c"), (wrong, right), each("ki", Add(a)))
        self.check_legal(access("c"), (right, wrong), each("ki", Add(a)))
        self.check_legal(access("c"), (right, wrong), each("ik", Add(a * a + 1)))

    def test_an_unused_use_that_never_fits(self):
        uses = (use("a", "ik", "dense 0, packed 1"),)
        self.check_legal(access("c"), uses, each("ki", ONE))

    def test_many_nodes_within_one_another(self):
        node = ONE
        for number_of in range(100):
            node = Block((node,))
        self.check_legal(access("c"), (), node)


class IllegalTest(unittest.TestCase):
    a = access("a", "i", "k")
    uses = (use("a", "ik", "dense 0, packed 1"), use("b", "k", "packed 0"), use("d", "ki", "bits 0, hashed 1"))

    def check_place(self, node, place, uses=None):
        program = Program(access("c", "i", "k"), self.uses if uses is None else uses, node)
        self.assertEqual(illegal_place(program), place)
        self.assertEqual(illegal_place(program), place)
        self.assertTrue(place is None or isinstance(illegal_place(program), tuple))

    def check_loop(self, loop):
        """Check that just this loop is wrong, alone and below other nodes."""
        self.check_place(loop, ())
        self.check_place(Block((NOTHING, loop, ONE)), (1,))
        self.check_place(Block((Block(()), Block((NOTHING, Block((loop, loop)))))), (1, 1, 0))

    def check_inner(self, loop):
        """Check that just this loop is wrong in a loop over i."""
        self.check_place(Loop("i", (), (((), NOTHING), ((), loop), ((), loop))), (1,))
        self.check_place(Loop("i", (), (((), Block((NOTHING, loop))),)), (0, 1))

    def test_letters_of_loops(self):
        for letter in ("j", "z", "a", "c"):
            self.check_loop(Loop(letter, (), ()))
            self.check_inner(Loop(letter, ((),), (((), NOTHING),)))
        self.check_inner(Loop("i", (), ()))
        self.check_place(each("iki", NOTHING), (0, 0))
        self.check_place(each("ikk", NOTHING), (0, 0))
        self.check_place(Block((each("ik", NOTHING), each("ki", NOTHING), each("kik", NOTHING))), (2, 0, 0))

    def test_groups_of_wrong_numbers(self):
        for group in ((3,), (-1,), (0, 3), (-1, 0), (0, 0), (100,), (-3,), (10 ** 19,)):
            self.check_loop(Loop("i", (group,), ()))
            self.check_loop(Loop("i", ((), (0,), group), ()))
        both = (use("a", "ik", "dense 0, packed 1"), use("b", "ik", "bits 0, bits 1"))
        for group, place in (((0, 1), None), ((1, 0), ()), ((1, 1), ()), ((0, 1, 1), ()), ((0, 0, 1), ()), ((0, 1, 0), ())):
            self.check_place(Loop("i", (group,), ()), place, both)

    def test_needs_of_wrong_numbers(self):
        for needs in ((3,), (-1,), (0, 3), (-1, 0), (0, 0), (1, 0), (0, 1, 1), (2, 1), (10 ** 19,), (0, 2, 1)):
            self.check_loop(Loop("i", (), ((needs, NOTHING),)))
            self.check_loop(Loop("i", (), (((), NOTHING), ((0, 1), NOTHING), (needs, NOTHING))))
        self.check_place(Loop("i", (), (((0, 1, 2), NOTHING),)), None)

    def test_numbers_without_uses(self):
        self.check_place(Loop("i", ((0,),), ()), (), ())
        self.check_place(Loop("i", (), (((0,), NOTHING),)), (), ())

    def test_leaders_of_another_letter(self):
        self.check_loop(Loop("k", ((0,),), ()))
        self.check_loop(Loop("i", ((1,),), ()))
        self.check_loop(Loop("i", ((0,), (2,)), ()))
        self.check_place(Loop("k", ((1, 2), (1,), (2,)), ()), None)
        self.check_place(Loop("i", ((0,),), ()), None)

    def test_leaders_without_a_next_level(self):
        self.check_place(each("k", Loop("i", ((1,),), ())), (0,))
        self.check_place(each("i", Loop("k", ((0, 1),), ())), None)
        self.check_place(Loop("i", ((0,),), ()), (), (use("s", ""), *self.uses))

    def test_hashed_leaders(self):
        self.check_place(Loop("k", ((0,),), ()), (), (use("h", "k", "hashed 0"),))
        self.check_place(each("k", Loop("i", ((2,),), ())), (0,))
        self.check_place(Loop("i", ((0,), ()), ()), (), (use("h", "ik", "hashed 0, dense 1"),))
        self.check_place(each("i", Loop("k", ((0,),), ())), None, (use("h", "ik", "hashed 0, dense 1"),))

    def test_leaders_that_do_not_fit(self):
        # The packed level has its letter bound before that of the level above.
        wrong = (use("t", "ikj", "dense 0, packed 1, dense 2"),)
        target = access("c", "i", "k", "j")
        for order, place in (("ik", None), ("ki", (0, 0))):
            program = Program(target, wrong, each(order, Loop("j", ((0,),), ())))
            self.assertEqual(illegal_place(program), place)

    def test_needs_that_do_not_fit(self):
        self.check_place(each("k", Loop("i", (), (((0,), NOTHING),))), (0,))
        self.check_place(each("k", Loop("i", (), (((), NOTHING), ((1, 2), NOTHING)))), None)
        self.check_place(each("i", Loop("k", (), (((0,), NOTHING),))), None)
        self.check_place(Loop("k", (), (((0,), NOTHING),)), None)

    def test_adds_without_a_letter(self):
        self.check_place(ONE, ())
        self.check_place(each("i", ONE), (0,))
        self.check_place(each("k", Block((NOTHING, ONE))), (0, 1))
        self.check_place(each("ki", ONE), None)
        self.check_place(Block((each("ki", ONE), each("k", ONE))), (1, 0))
        program = Program(access("c"), (use("b", "z", "dense 0"),), Add(number(0)))
        self.assertEqual(illegal_place(program), ())
        program = Program(access("c", "z"), (), Add(number(0)))
        self.assertEqual(illegal_place(program), ())

    def test_accesses_without_uses(self):
        for wrong in (
            access("e", "k"), access("b", "i"), access("b"), access("a", "k", "i"), access("a", "i"), access("c", "i", "k"),
            self.a * access("e"), access("b", "k") + (1 - access("b", "k", "i")), access("a", "i", "j"),
        ):
            self.check_place(each("ik", Add(wrong)), (0, 0))
        self.check_place(each("ik", Add(self.a * access("b", "k") + access("d", "k", "i"))), None)

    def test_accesses_whose_uses_do_not_fit(self):
        self.check_place(each("ki", Add(self.a)), (0, 0))
        self.check_place(each("ki", Add(access("d", "k", "i"))), None)
        twice = (*self.uses, use("a", "ik", "packed 0, packed 1"))
        self.check_place(each("ki", Add(self.a)), (0, 0), twice)
        self.check_place(each("ki", Add(self.a)), None, (*twice, use("a", "ik", "packed 0, bits 1")))

    def test_packed_levels_in_another_order(self):
        for form, letters in (
            ("packed 0, packed 1, packed 2", "ijk"), ("dense 1, packed 0, packed 2", "jik"), ("bits 2, bits 1, packed 0", "kji"),
        ):
            program_use = use("t", "ijk", form)
            for order in ("ijk", "ikj", "jik", "jki", "kij", "kji"):
                program = Program(access("c"), (program_use,), each(order, Add(access("t", "i", "j", "k"))))
                late = "packed" in form.split(", ")[1] and order.index(letters[0]) > order.index(letters[1])
                late = late or order.index(letters[2]) != 2
                self.assertEqual(illegal_place(program), (0, 0, 0) if late else None, (form, order))

    def test_a_packed_level_behind_any_of_the_levels_before(self):
        program_use = use("t", "ijk", "bits 0, bits 1, packed 2")
        for order, place in (
            ("ijk", None), ("jik", None), ("ikj", (0, 0, 0)), ("kij", (0, 0, 0)), ("jki", (0, 0, 0)), ("kji", (0, 0, 0)),
        ):
            program = Program(access("c"), (program_use,), each(order, Add(access("t", "i", "j", "k"))))
            self.assertEqual(illegal_place(program), place)

    def test_the_first_node_is_told(self):
        wrong = Loop("z", (), ())
        self.check_place(Loop("z", (), (((), wrong),)), ())
        self.check_place(Block((Block((NOTHING, wrong)), wrong)), (0, 1))
        self.check_place(Block((Block((NOTHING, NOTHING)), wrong, ONE)), (1,))
        self.check_place(Block((each("i", wrong), ONE)), (0, 0))
        self.check_place(Block((each("ik", ONE), Loop("i", (), (((), NOTHING), ((), Block((NOTHING, ONE))))))), (1, 1, 1))

    def test_a_node_that_is_wrong_at_one_of_its_places(self):
        add = Add(access("b", "k"))
        inner = Loop("k", ((1,),), (((1,), add),))
        self.check_place(Block((Loop("i", ((0,),), (((), inner),)), inner)), (1, 0))
        self.check_place(Block((each("i", inner), each("k", inner))), (1, 0))
        self.check_place(Block((each("i", each("k", add)), each("i", add))), (1, 0))

    def test_many_uses(self):
        uses = tuple(use(name, "i", "packed 0") for name in "abdefghlmn")
        program = Program(access("c"), uses, Loop("i", (tuple(range(10)),), ((tuple(range(10)), ONE),)))
        self.assertIsNone(illegal_place(program))
        program = Program(access("c"), uses, Loop("i", (tuple(range(11)),), ()))
        self.assertEqual(illegal_place(program), ())


def model_right(program, node, bound):
    numbers = range(len(program.uses))
    if isinstance(node, Loop):
        groups = node.leaders + tuple(needs for needs, inside in node.cases)
        return (
            node.letter in program.letters and node.letter not in bound
            and all(sorted(set(group)) == list(group) and set(group) <= set(numbers) for group in groups)
            and all(model_leads(program.uses[n], node.letter, bound) for group in node.leaders for n in group)
            and all(model_fits(program.uses[n], bound + [node.letter]) for needs, inside in node.cases for n in needs)
        )
    if isinstance(node, Add):
        return set(program.letters) <= set(bound) and all(
            any((each_use.name, each_use.letters) == pair and model_fits(each_use, bound) for each_use in program.uses)
            for pair in node.expression.accesses
        )
    return True


def model_place(program, node, bound, place=()):
    """The place of the first wrong node by the document, or None."""
    if not model_right(program, node, bound):
        return place
    inner = [case[1] for case in node.cases] if isinstance(node, Loop) else getattr(node, "nodes", ())
    bound = bound + [node.letter] if isinstance(node, Loop) else bound
    for number_of, inside in enumerate(inner):
        found = model_place(program, inside, bound, place + (number_of,))
        if found is not None:
            return found
    return None


class RandomTest(unittest.TestCase):
    def setUp(self):
        self.chance = Random(5)

    def some(self, worths, most=2):
        return sorted(self.chance.sample(worths, min(len(worths), self.chance.randint(0, most))))

    def spoilt(self, worths):
        """The same numbers, seldom with something wrong."""
        if self.chance.random() < 0.02:
            return self.chance.choice([worths + [0], worths[::-1], worths + [len(worths) + 1], [-1] + worths])
        return worths

    def random_use(self):
        letters = self.chance.sample("ijk", self.chance.randint(0, 3))
        kinds = [self.chance.choice(KINDS) for letter in letters]
        return Use(self.chance.choice("ab"), letters, Form(*kinds, axes=self.chance.sample(range(len(letters)), len(letters))))

    def random_node(self, uses, letters, bound, depth):
        free = [letter for letter in letters if letter not in bound]
        if depth > 0 and self.chance.random() < 0.2:
            return Block([self.random_node(uses, letters, bound, depth - 1) for number_of in range(self.chance.randint(0, 2))])
        if free and depth > 0 or self.chance.random() < 0.03:
            return self.random_loop(uses, letters, bound, depth - 1)
        fitting = [n for n in range(len(uses)) if model_fits(uses[n], bound)]
        if free and self.chance.random() < 0.9:
            return NOTHING
        if self.chance.random() < 0.05:
            fitting = list(range(len(uses)))
        expression = number(2)
        for n in self.some(fitting):
            expression = expression * access(uses[n].name, *uses[n].letters)
        return Add(expression)

    def random_loop(self, uses, letters, bound, depth):
        free = [letter for letter in letters if letter not in bound] or ["j"]
        letter = self.chance.choice(free if self.chance.random() < 0.97 else "ijkz")
        odd = self.chance.random() < 0.02
        leading = [n for n in range(len(uses)) if odd or model_leads(uses[n], letter, bound)]
        inside = bound + [letter]
        fitting = [n for n in range(len(uses)) if odd or model_fits(uses[n], inside)]
        leaders = [self.spoilt(self.some(leading)) for group in range(self.chance.randint(0, 2))]
        return Loop(letter, leaders, [
            (self.spoilt(self.some(fitting)), self.random_node(uses, letters, inside, depth))
            for case in range(self.chance.randint(1, 2))
        ])

    def random_program(self):
        uses = [self.random_use() for number_of in range(self.chance.randint(0, 3))]
        target = access("c", *self.chance.sample("ijk", self.chance.randint(0, 2)))
        letters = sorted({letter for each_use in uses for letter in each_use.letters} | set(target.letters))
        return Program(target, uses, self.random_node(uses, letters, [], 5))

    def test_random_programs(self):
        legal, places = 0, set()
        for attempt in range(4000):
            program = self.random_program()
            place = model_place(program, program.node, [])
            self.assertEqual(illegal_place(program), place)
            legal += place is None
            places.add(place)
        self.assertGreater(legal, 1000)
        self.assertLess(legal, 3500)
        self.assertGreater(len(places), 20)


if __name__ == "__main__":
    unittest.main()
