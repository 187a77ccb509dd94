"""Programs made by chance: what is told of them against what the document says in short."""

import random
import unittest

from barewords.plain import plain
from barewords.programs import Program, kinds_at, points
from made import made_program, much_like
from naive import naive_part, naive_run
from samples import part_of


class RandomTest(unittest.TestCase):
    def test_made_programs_are_right(self):
        right = 0
        for seed in range(150):
            book, bodies = made_program(random.Random(seed))
            part = naive_part(book, bodies)
            self.assertEqual(part_of(book, bodies), part, seed)
            right += part is None
        self.assertGreater(right, 100)

    def test_programs_much_like_these(self):
        heads = {}
        for seed in range(150):
            chance = random.Random(1000 + seed)
            made = made_program(chance)
            for _ in range(15):
                book_and_bodies = much_like(chance, made)
                if isinstance(book_and_bodies, tuple) and len(book_and_bodies) == 2:
                    part = naive_part(*book_and_bodies)
                    self.assertEqual(part_of(*book_and_bodies), part, (seed, book_and_bodies))
                    head = None if part is None else part[0] if part[0] != "body" else part[2]
                    heads[head] = heads.get(head, 0) + 1
        for head in (None, "book", "form", "kinds", "first", "step"):
            self.assertGreater(heads.get(head, 0), 5, heads)

    def test_runs(self):
        over = 0
        for seed in range(150):
            chance = random.Random(2000 + seed)
            book, bodies = made_program(chance)
            if naive_part(book, bodies) is None:
                program = Program(book, bodies)
                inputs = tuple(chance.randint(-2, 3) for _ in bodies[0][1])
                said, done, is_over = naive_run(bodies, inputs, 300)
                over += is_over
                for most in {0, 1, 2, done // 2, done - 1, done, done + (1 if is_over else 0)}:
                    told = tuple(number for number, behind in said if behind <= most)
                    self.assertEqual(plain(program, inputs, max(0, most)), (told, is_over and most >= done), seed)
        self.assertGreater(over, 30)

    def test_tables_grow(self):
        for seed in range(50):
            book, bodies = made_program(random.Random(3000 + seed))
            if naive_part(book, bodies) is None:
                program = Program(book, bodies)
                for body in range(len(bodies)):
                    ahead = bodies[body][1]
                    self.assertEqual(kinds_at(program, body, (0,)), ahead)
                    for point in points(program, body):
                        table = kinds_at(program, body, point)
                        self.assertEqual(table[:len(ahead)], ahead)


if __name__ == "__main__":
    unittest.main()
