"""Shapes (points 8, 9 and 10)."""

import itertools

from formroads.errors import InvalidShape
from formroads.shapes import (
    MOST_COLUMNS, above, check_shape, column_count, cuts, depth_of, level_of, path_values, shape_of, values_path,
)
from tests.samples import Case, all_shapes, plain_cuts

SHAPES = [shape for count in range(1, 5) for shape in all_shapes(count)]
NO_SHAPES = [
    (), ((),), ((), (0,)), ((0,), ()), ((0,), (), (1,)), ((1,),), ((0,), (2,)), ((0, 2),), ((1, 0),), ((0,), (2, 1)),
    ((0, 0),), ((0,), (0,)), ((0, 1), (1,)), ((0, 1), (0, 1)), ((-1, 0),), ((0, 1, 2, 3, 4),), ((0, 1), (2, 3), (4,)),
    ((0,), (1,), (2,), (3,), (4,)), ((1, 2),), ((2,), (3,), (1,)), ((0, 1, 1),),
]


class CheckingTest(Case):
    def test_all_shapes(self):
        self.assertEqual([len(all_shapes(count)) for count in range(1, 5)], [1, 3, 13, 75])
        for shape in SHAPES:
            self.assertEqual(check_shape(shape), shape)
        self.assertEqual(MOST_COLUMNS, 4)

    def test_no_shapes(self):
        for shape in NO_SHAPES:
            self.raises(InvalidShape, check_shape, shape)

    def test_all_pairs_of_levels(self):
        levels = [level for size in range(4) for level in itertools.product(range(-1, 4), repeat=size)]
        for first in levels:
            for second in levels[:40]:
                shape = (first, second)
                if shape in SHAPES:
                    self.assertEqual(check_shape(shape), shape)
                else:
                    self.raises(InvalidShape, check_shape, shape)

    def test_column_count(self):
        for count in range(1, 5):
            for shape in all_shapes(count):
                self.assertEqual(column_count(shape), count)

    def test_level_of(self):
        for shape in SHAPES:
            for number, level in enumerate(shape):
                for column in level:
                    self.assertEqual(level_of(shape, column), number)
        self.raises(InvalidShape, level_of, ((0,), (1,)), 2)
        self.raises(InvalidShape, level_of, ((0, 1, 2, 3),), 4)
        self.raises(InvalidShape, level_of, ((0,), (1,)), -1)


class CutsTest(Case):
    def test_above(self):
        shape = ((1, 3), (0,), (2,))
        self.assertEqual([above(shape, level) for level in range(4)], [(), (1, 3), (0, 1, 3), (0, 1, 2, 3)])
        for shape in SHAPES:
            for level in range(len(shape) + 1):
                self.assertEqual(above(shape, level), tuple(sorted(sum(shape[:level], ()))))

    def test_cuts(self):
        self.assertEqual(cuts(((0,),)), [])
        self.assertEqual(cuts(((2,), (0, 3), (1,))), [(2,), (0, 2, 3)])
        for shape in SHAPES:
            self.assertEqual(cuts(shape), plain_cuts(shape))

    def test_shape_of(self):
        self.assertEqual(shape_of([(2,), (0, 2, 3)], 4), ((2,), (0, 3), (1,)))
        for shape in SHAPES:
            self.assertEqual(shape_of(cuts(shape), column_count(shape)), shape)

    def test_all_chains(self):
        shapes = {tuple(plain_cuts(shape)): shape for shape in all_shapes(3)}
        subsets = [subset for size in range(4) for subset in itertools.combinations(range(3), size)]
        for length in range(4):
            for chain in itertools.product(subsets, repeat=length):
                if chain in shapes:
                    self.assertEqual(shape_of(list(chain), 3), shapes[chain])
                else:
                    self.raises(InvalidShape, shape_of, list(chain), 3)

    def test_no_chains(self):
        self.raises(InvalidShape, shape_of, [(0,), (1, 2)], 3)
        self.raises(InvalidShape, shape_of, [(0, 1), (0,)], 3)
        self.raises(InvalidShape, shape_of, [(0,), (0,)], 3)
        self.raises(InvalidShape, shape_of, [()], 3)
        self.raises(InvalidShape, shape_of, [(0, 1, 2)], 3)
        self.raises(InvalidShape, shape_of, [], 0)
        self.raises(InvalidShape, shape_of, [], 5)
        self.raises(InvalidShape, shape_of, [(0, 1)], 5)

    def test_depth_of(self):
        shape = ((1, 3), (0,), (2,))
        self.assertEqual(depth_of(shape, (1, 3)), 0)
        self.assertEqual(depth_of(shape, [3, 1]), 0)
        self.assertEqual(depth_of(shape, (3, 0, 1)), 1)
        self.assertEqual(depth_of(shape, [2, 0, 3, 1]), 2)
        for columns in ((1,), (0,), (0, 1), (0, 2), (1, 3, 2), ()):
            self.assertEqual(depth_of(shape, columns), -1)
        for shape in SHAPES:
            ends = [above(shape, level + 1) for level in range(len(shape))]
            for size in range(1, column_count(shape) + 1):
                for columns in itertools.combinations(range(column_count(shape)), size):
                    wanted = ends.index(columns) if columns in ends else -1
                    self.assertEqual(depth_of(shape, columns), wanted)
                    self.assertEqual(depth_of(shape, list(columns[::-1])), wanted)


class PathsTest(Case):
    def test_example(self):
        shape = ((1, 3), (0,), (2,))
        a, b, c, d = ("size", 0), ("size", 1), ("day", 2), ("month", 1)
        path = ((a, b), (c,), (d,))
        self.assertEqual(path_values(shape, path), [c, a, d, b])
        self.assertEqual(path_values(shape, path[:2]), [c, a, None, b])
        self.assertEqual(path_values(shape, path[:1]), [None, a, None, b])
        self.assertEqual(values_path(shape, [c, a, d, b], 2), path)
        self.assertEqual(values_path(shape, [c, a, d, b], 1), path[:2])
        self.assertEqual(values_path(shape, [c, a, None, b], 1), path[:2])
        self.assertEqual(values_path(shape, [None, a, None, b], 0), path[:1])

    def test_there_and_back(self):
        for shape in SHAPES:
            values = [("size", column) for column in range(column_count(shape))]
            for depth in range(len(shape)):
                path = values_path(shape, values, depth)
                self.assertEqual(path, tuple(tuple(values[column] for column in level) for level in shape[:depth + 1]))
                reached = above(shape, depth + 1)
                wanted = [value if column in reached else None for column, value in enumerate(values)]
                self.assertEqual(path_values(shape, path), wanted)


class FreshnessTest(Case):
    def test_answers_and_arguments(self):
        shape = ((1, 3), (0,), (2,))
        self.unchanging(check_shape, shape)
        self.unchanging(cuts, shape)
        self.unchanging(above, shape, 2)
        self.unchanging(shape_of, [(1, 3), (0, 1, 3)], 4)
        self.unchanging(depth_of, shape, [3, 0, 1])
        self.unchanging(depth_of, shape, [2, 3, 1])
        self.unchanging(path_values, shape, ((("size", 0), ("size", 1)), (("day", 0),)))
        self.unchanging(values_path, shape, [("day", 0), ("size", 0), None, ("size", 1)], 1)

    def test_arguments_after_an_error(self):
        self.raises_unchanged(InvalidShape, shape_of, [(1, 3), (0, 1)], 4)
        self.raises_unchanged(InvalidShape, shape_of, [(1, 3), (1, 3)], 4)
        self.raises_unchanged(InvalidShape, shape_of, [(0, 1, 2, 3)], 4)
