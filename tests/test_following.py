"""[26], [28], [44]: what a program does at one point is what its whole run does there."""

import unittest
from itertools import product

from levelwalks.families import Family
from levelwalks.following import Follower, additions_at
from tests.helper import Maker, ModelRun, program_accesses


class FollowingTest(unittest.TestCase):
    def test_additions_at_points(self):
        for maker in (Maker(81), Maker(82, "ij"), Maker(83, "ijkl", 4)):
            for attempt in range(150):
                program = maker.program()
                tables = maker.tables(program_accesses(program), 2)
                run = ModelRun(program, tables)
                points = list(product(range(2), repeat=len(program.letters)))
                maker.chance.shuffle(points)
                for chosen in (points, points[:3], []):
                    wanted = [(point, amount) for point in chosen for at, amount in run.trace if at == point]
                    self.assertEqual(additions_at(program, tables, chosen), wanted)

    def test_patterns(self):
        maker = Maker(84)
        for attempt in range(150):
            program = maker.program()
            family, follower = Family(program), Follower(program)
            tables = maker.tables(program_accesses(program), 2)
            run = ModelRun(program, tables)
            for point in product(range(2), repeat=len(program.letters)):
                pattern = family.pattern_at(tables, point)
                found = follower.followed_where({member: True for member, there in zip(family.members, pattern) if there})
                spot = dict(zip(program.letters, point))
                turns = [tuple((letter, spot[letter]) for letter in letters) for letters in found.turns]
                here = [binding for binding in run.bindings if set(binding) <= set(spot.items())]
                self.assertEqual(sorted(turns), sorted(here))
                self.assertEqual(len(found.adds), sum(at == point for at, amount in run.trace))


if __name__ == "__main__":
    unittest.main()
