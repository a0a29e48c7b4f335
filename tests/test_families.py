"""[34] to [37]: families of programs, their patterns, and small tables."""

import unittest
from itertools import combinations, product
from random import Random

from levelwalks.errors import Inconsistent, NoTable, RankClash
from levelwalks.expressions import access
from levelwalks.families import Family
from levelwalks.forms import Form
from levelwalks.programs import Program, Use
from levelwalks.storing import Stored
from tests.helper import KINDS, NOTHING, Maker, each, is_deep_tuple, shapes, table, use


def program(target, *uses):
    return Program(target, uses, NOTHING)


def model_members(programs):
    """The members by the document."""
    found = set()
    for each_program in programs:
        for each_use in each_program.uses:
            pairs = [(axis, each_use.letters[axis]) for axis in each_use.form.axes]
            found.add((each_use.name, tuple(sorted(pairs))))
            for level, kind in enumerate(each_use.form.kinds):
                if kind != "dense":
                    found.add((each_use.name, tuple(sorted(pairs[:level + 1]))))
    return tuple(sorted(found))


def model_exists(cells, pairs, spot):
    return any(n != 0 and all(at[axis] == spot[letter] for axis, letter in pairs) for at, n in cells.items())


def model_consistent(members, pattern):
    return not any(
        there and not other_there and name == other and set(fewer) <= set(pairs)
        for (name, pairs), there in zip(members, pattern) for (other, fewer), other_there in zip(members, pattern)
    )


def model_patterns(members):
    return [pattern for pattern in product((False, True), repeat=len(members)) if model_consistent(members, pattern)]


FAMILIES = (
    (program(access("c")),),
    (program(access("c"), use("s", "")),),
    (program(access("c", "i"), use("a", "i", "dense 0")),),
    (program(access("c", "i"), use("a", "i", "hashed 0"), use("a", "k", "bits 0")),),
    (program(access("c", "i"), use("a", "ik", "packed 0, dense 1")),),
    (program(access("c", "i"), use("a", "ik", "dense 1, packed 0"), use("b", "k", "packed 0")),),
    (program(access("a", "i", "j"), use("a", "ij", "bits 1, packed 0"), use("a", "ij", "packed 0, dense 1")),),
    (program(access("c", "z"), use("t", "zkb", "bits 2, hashed 0, packed 1"), use("s", "")),),
    (program(access("c", "i"), use("t", "ijk", "packed 0, packed 1, packed 2"), use("t", "kij", "packed 2, packed 1, packed 0")),),
    (program(access("c", "i"), use("a", "ik", "packed 0, packed 1")), program(access("c", "i"), use("a", "ki", "packed 0, bits 1"))),
    (program(access("c", "i"), use("t", "ijk", "packed 2, packed 0, packed 1")),
     program(access("c", "i"), use("t", "ijk", "packed 0, packed 1, packed 2"), use("d", "lm", "bits 0, bits 1"))),
    (program(access("c"), use("a", "i", "bits 0")), program(access("d", "j"), use("b", "k", "dense 0")), program(access("e"))),
    (program(access("c"), *(use(name, letter, "packed 0") for name in "ab" for letter in "ijklm")),),
    (program(access("c"), *(use(name, "", "-") for name in ("a", "b", "d", "e", "f", "g", "h", "l", "m", "n"))),),
)


def some_families(many=60):
    maker = Maker(5)
    found = list(FAMILIES)
    while len(found) < many:
        target = maker.target()
        programs = [maker.program(target) for number_of in range(maker.chance.randint(1, 2))]
        if len(model_members(programs)) <= 10:
            found.append(tuple(programs))
    return found


class AttributesTest(unittest.TestCase):
    def test_members(self):
        for programs in some_families(200):
            family = Family(*programs)
            self.assertEqual(family.members, model_members(programs))
            self.assertTrue(isinstance(family.members, tuple) and is_deep_tuple(family.members))

    def test_told_members(self):
        for each_use, pairs in (
            (use("a", "ik", "dense 0, dense 1"), [((0, "i"), (1, "k"))]),
            (use("a", "ik", "dense 1, packed 0"), [((0, "i"), (1, "k"))]),
            (use("a", "ik", "packed 1, dense 0"), [((0, "i"), (1, "k")), ((1, "k"),)]),
            (use("a", "ki", "bits 1, hashed 0"), [((0, "k"), (1, "i")), ((1, "i"),)]),
            (use("a", "", "-"), [()]), (use("a", "z", "hashed 0"), [((0, "z"),)]),
            (use("a", "xyz", "bits 2, packed 0, dense 1"), [((0, "x"), (1, "y"), (2, "z")), ((0, "x"), (2, "z")), ((2, "z"),)]),
        ):
            self.assertEqual(Family(program(access("c"), each_use)).members, tuple(("a", each_set) for each_set in pairs))
        family = Family(program(access("c", "i"), use("b", "k", "packed 0"), use("a", "ik", "packed 0, packed 1"), use("b", "i", "dense 0")))
        self.assertEqual(family.members, (
            ("a", ((0, "i"),)), ("a", ((0, "i"), (1, "k"))), ("b", ((0, "i"),)), ("b", ((0, "k"),)),
        ))

    def test_letters_and_ranks(self):
        for programs in some_families():
            family = Family(*programs)
            self.assertEqual(family.letters, tuple(sorted({letter for each_one in programs for letter in each_one.letters})))
            self.assertIs(type(family.letters), tuple)
            ranks = {}
            for each_one in programs:
                ranks[each_one.target.parts[0]] = len(each_one.target.parts[1])
                ranks.update({each_use.name: len(each_use.letters) for each_use in each_one.uses})
            self.assertEqual(family.ranks, ranks)
            self.assertIs(type(family.ranks), dict)
        family = Family(program(access("c", "y"), use("b", "zk", "dense 0, dense 1")), program(access("e"), use("a", "l", "dense 0")))
        self.assertEqual((family.letters, family.ranks), (("k", "l", "y", "z"), {"c": 1, "b": 2, "e": 0, "a": 1}))

    def test_rank_clashes(self):
        a0, a1, a2 = use("a", ""), use("a", "i", "dense 0"), use("a", "ik", "dense 0, packed 1")
        b0, b1 = use("b", ""), use("b", "k", "bits 0")
        c0, c1 = access("c"), access("c", "i")
        for programs, name in (
            ((program(c0, a1, a2),), "a"), ((program(c0, a1, b1, b0, a2),), "b"), ((program(c0, b1, a2, a1, b0),), "a"),
            ((program(c0, use("c", "i", "dense 0")),), "c"), ((program(access("a"), a1),), "a"),
            ((program(c0, a1), program(c1, a1)), "c"), ((program(c0, a1), program(c1, a2)), "c"),
            ((program(c0, a1), program(c0, a2, b0, b1)), "a"), ((program(c0, a1, b0), program(access("b", "i"), a2)), "b"),
            ((program(c0), program(access("d")), program(access("c", "z"))), "c"), ((program(c0, b0), program(c0, a1, b1, a0)), "b"),
            ((program(c1, a1), program(access("a", "k"), a1)), None), ((program(c0, a1, a1, use("a", "z", "hashed 0")),), None),
        ):
            if name is None:
                Family(*programs)
                continue
            with self.assertRaises(RankClash) as caught:
                Family(*programs)
            self.assertEqual(caught.exception.name, name)

    def test_what_is_told_belongs_to_the_caller(self):
        programs = FAMILIES[5]
        first = Family(*programs)
        whole = (True,) * len(first.members)
        small = first.small_tables(whole)
        first.ranks.clear()
        self.assertEqual(Family(*programs).ranks, {"c": 1, "a": 2, "b": 1})
        self.assertEqual(first.small_tables(whole), small)
        with self.assertRaises(RankClash):
            first.pattern_at({"a": table((2,))}, (0, 0))
        self.assertEqual([each_use.form.text for each_use in programs[0].uses], ["dense 1, packed 0", "packed 0"])


class PatternsTest(unittest.TestCase):
    def test_all_consistent_patterns(self):
        for programs in some_families(120):
            family = Family(*programs)
            found = list(family.patterns())
            self.assertEqual(found, model_patterns(family.members))
            self.assertEqual(list(family.patterns()), found)
            self.assertTrue(all(type(part) is bool for pattern in found for part in pattern))
            self.assertTrue(all(type(pattern) is tuple for pattern in found))

    def test_told_patterns(self):
        self.assertEqual(list(Family(*FAMILIES[0]).patterns()), [()])
        self.assertEqual(list(Family(*FAMILIES[1]).patterns()), [(False,), (True,)])
        # The second member is all pairs, the first one a part of them.
        self.assertEqual(list(Family(*FAMILIES[4]).patterns()), [(False, False), (True, False), (True, True)])
        family = Family(program(access("c"), use("a", "ik", "bits 1, dense 0")))
        self.assertEqual(family.members, (("a", ((0, "i"), (1, "k"))), ("a", ((1, "k"),))))
        self.assertEqual(list(family.patterns()), [(False, False), (False, True), (True, True)])
        self.assertEqual(len(list(Family(*FAMILIES[-1]).patterns())), 1024)

    def test_the_caller_may_change_what_is_told(self):
        family = Family(*FAMILIES[5])
        patterns = list(family.patterns())
        patterns.clear()
        self.assertEqual(list(family.patterns()), model_patterns(family.members))

    def test_patterns_at_all_points(self):
        maker, chance = Maker(6), Random(2)
        for programs in some_families(80):
            family = Family(*programs)
            size = chance.randint(1, 2 if len(family.letters) > 3 else 3)
            tables = maker.tables([(name, "xyz"[:rank]) for name, rank in family.ranks.items()], size)
            patterns = set(family.patterns())
            for point in product(range(size), repeat=len(family.letters)):
                spot = dict(zip(family.letters, point))
                wanted = tuple(
                    model_exists(dict(tables[name].entries()), pairs, spot) for name, pairs in family.members
                )
                self.assertEqual(family.pattern_at(tables, point), wanted)
                self.assertEqual(family.pattern_at(point=list(point), tables=tables), wanted)
                self.assertIn(family.pattern_at(tables, point), patterns)

    def test_the_forms_of_the_tables_do_not_matter(self):
        family = Family(program(access("c"), use("a", "ik", "bits 1, packed 0"), use("a", "ki", "dense 0, hashed 1")))
        cells = {(0, 1): 3, (2, 2): 1, (1, 1): 0}
        for kinds, axes in shapes(2):
            tables = {"a": Stored((3, 3), Form(*kinds, axes=axes), cells)}
            for i, k in product(range(3), repeat=2):
                self.assertEqual(family.pattern_at(tables, (i, k)), (
                    (i, k) in ((0, 1), (2, 2)), (k, i) in ((0, 1), (2, 2)), k in (1, 2),
                ))

    def test_targets_need_no_table(self):
        family = Family(program(access("c", "i"), use("a", "i", "packed 0")))
        self.assertEqual(family.pattern_at({"a": table((2,), {(1,): 3})}, (1,)), (True,))
        self.assertEqual(Family(program(access("c", "i"))).pattern_at({}, [0]), ())

    def test_missing_tables_and_clashing_ranks(self):
        family = Family(program(access("c", "i"), use("b", "k", "packed 0"), use("a", "ik", "packed 0, packed 1"), use("s", "")))
        a, b, s = table((2, 2)), table((2,)), table(())
        for tables, error, name in (
            ({}, NoTable, "a"), ({"a": a}, NoTable, "b"), ({"a": a, "b": b}, NoTable, "s"), ({"a": b}, RankClash, "a"),
            ({"a": a, "b": a}, RankClash, "b"), ({"b": a, "s": s}, NoTable, "a"), ({"a": s, "b": a}, RankClash, "a"),
            ({"a": a, "b": b, "s": b}, RankClash, "s"), ({"a": a, "s": b}, NoTable, "b"), ({"c": a, "s": b}, NoTable, "a"),
        ):
            with self.assertRaises(error) as caught:
                family.pattern_at(tables, (0, 0))
            self.assertEqual(caught.exception.name, name)
        self.assertEqual(family.pattern_at({"a": a, "b": b, "s": s}, (0, 0)), (False,) * 4)


class SmallTablesTest(unittest.TestCase):
    def test_every_pattern(self):
        chance = Random(3)
        for programs in some_families(50):
            family = Family(*programs)
            patterns = model_patterns(family.members)
            for pattern in patterns if len(patterns) < 60 else chance.sample(patterns, 60):
                self.check(family, pattern)

    def check(self, family, pattern):
        n = len(family.letters)
        told = {member: 3 + at for at, member in enumerate(family.members) if at % 2}
        for values in (None, {}, told):
            found = family.small_tables(pattern, values)
            self.assertEqual(found, family.small_tables(values=values, pattern=list(pattern)))
            wanted = {name: {} for name in family.ranks}
            for (name, pairs), there in zip(family.members, pattern):
                if there:
                    at = tuple(family.letters.index(dict(pairs)[axis]) if axis in dict(pairs) else n for axis in range(family.ranks[name]))
                    wanted[name][at] = (values or {}).get((name, pairs), 1)
            self.assertEqual(found, wanted)
            self.assertEqual(sum(map(len, found.values())), sum(pattern))
            tables = {
                name: Stored((n + 1,) * rank, Form(*["packed"] * rank), found[name]) for name, rank in family.ranks.items()
            }
            self.assertEqual(family.pattern_at(tables, tuple(range(n))), pattern)

    def test_every_other_pattern(self):
        for programs in some_families(30):
            family = Family(*programs)
            if len(family.members) > 7:
                continue
            right = model_patterns(family.members)
            for pattern in product((False, True), repeat=len(family.members)):
                if pattern not in right:
                    for given in (pattern, list(pattern)):
                        with self.assertRaises(Inconsistent):
                            family.small_tables(given)
                        with self.assertRaises(Inconsistent):
                            family.small_tables(given, {})

    def test_told_tables(self):
        family = Family(program(access("c", "z"), use("a", "ik", "packed 0, dense 1"), use("s", "")))
        self.assertEqual(family.letters, ("i", "k", "z"))
        self.assertEqual(family.small_tables((True, False, True)), {"c": {}, "a": {(0, 3): 1}, "s": {(): 1}})
        values = {("a", ((0, "i"), (1, "k"))): -5, ("s", ()): 10 ** 59, ("q", ()): 8, "more": 2}
        before = dict(values)
        self.assertEqual(family.small_tables((True, True, True), values), {"c": {}, "a": {(0, 3): 1, (0, 1): -5}, "s": {(): 10 ** 59}})
        self.assertEqual(values, before)
        self.assertEqual(family.small_tables((False,) * 3, values), {"c": {}, "a": {}, "s": {}})

    def test_what_is_told_is_the_callers(self):
        family = Family(*FAMILIES[5])
        pattern = (True,) * len(family.members)
        first = family.small_tables(pattern)
        wanted = {name: dict(cells) for name, cells in first.items()}
        for cells in first.values():
            cells[(9, 9)] = 1
        first.clear()
        self.assertEqual(family.small_tables(pattern), wanted)

    def test_a_family_does_not_change_with_what_was_passed(self):
        letters = ["i", "k"]
        a = Use("a", letters, Form("packed", "bits"))
        uses = [a]
        family = Family(Program(access("c"), uses, each("ik", NOTHING)))
        uses.clear()
        letters.reverse()
        self.assertEqual(family.members, (("a", ((0, "i"),)), ("a", ((0, "i"), (1, "k")))))

    def test_all_subsets_of_members_of_one_use(self):
        # The patterns of one use are as many as its sets, and one more.
        for kinds in product(KINDS, repeat=3):
            family = Family(program(access("c"), Use("t", "ijk", Form(*kinds))))
            self.assertEqual(len(list(family.patterns())), len(family.members) + 1)
            self.assertTrue(all(set(x[1]) <= set(y[1]) for x, y in combinations(family.members, 2)))


if __name__ == "__main__":
    unittest.main()
