"""The examples of the document, as it prints them."""

import unittest

from support import Checks, check_examples
from tangentrows import errors
from tangentrows.base import numbers, tables
from tangentrows.chain import chains
from tangentrows.count import counted
from tangentrows.desk import desks, promises
from tangentrows.form import forms, products
from tangentrows.free import deeds, free
from tangentrows.mark import euclid, marks, pairs, places
from tangentrows.plane import lines, lots, primes
from tangentrows.press import lines as press_lines
from tangentrows.press import pairs as press_pairs
from tangentrows.row import generators, rows, slopes
from tangentrows.text import formats, shell
from tangentrows.web import webs

LOTS = """
>>> BRAID = Lot(0, ((1, 0, 0), (0, 1, 0), (0, 0, 1), (1, -1, 0), (1, 0, -1), (0, 1, -1)))
>>> FIVE = Lot(0, ((1, 0, 0), (0, 1, 0), (0, 0, 1), (1, 1, 1), (1, 2, 3)))
>>> FAN = Lot(0, ((1, 0, 0), (0, 1, 0), (1, 1, 0), (1, -1, 0), (1, 2, 0), (0, 0, 1), (1, 3, 1)))
>>> PLUS = Lot(0, ((1, 0, 0), (0, 1, 0), (0, 0, 1), (1, 1, 0), (1, 0, 1), (0, 1, 1), (1, 1, 1)))
>>> FANO = Lot(2, ((0, 0, 1), (0, 1, 0), (0, 1, 1), (1, 0, 0), (1, 0, 1), (1, 1, 0), (1, 1, 1)))
"""

NUMBERS = """
>>> [is_prime(0), is_prime(4), is_number(5, 4), is_number(5, 5), is_number(0, -3), is_number(3, True)]
[True, False, True, False, True, False]
>>> [inverse(7, 3), common_divisor((4, -6, 0)), common_divisor(()), normal(0, (0, -4, 6)), normal(5, (0, 2, 1))]
[5, 2, 0, (0, 2, -3), (0, 1, 3)]
"""

TABLES = """
>>> SOME = ((1, 2, 3), (2, 4, 6), (1, 0, 1))
>>> [rank(0, SOME), echelon(0, SOME), kernel(0, SOME), is_mix(0, SOME, (0, 1, 1)), is_mix(0, SOME, (0, 1, 0))]
[2, ((1, 0, 1), (0, 1, 1)), ((1, 1, -1),), True, False]
>>> [kernel(2, ((1, 0, 1), (0, 0, 0))), sent(0, ((1, 2), (3, 4)), (1, -1))]
[((1, 0, 1), (0, 1, 0)), (-1, -1)]
>>> [determinant(5, ((2, 1), (1, 3))), undone(0, ((1, 2), (3, 4)))]
[0, ((4, -2), (-3, 1))]
>>> undone(0, ((1, 2), (2, 4)))
raises Refused(("flat",))
"""

FORMS = """
>>> X, Y = linear(0, (1, 0)), linear(0, (0, 1))
>>> f = X * X * Y * 2 - Y.power(3)
>>> [str(f), f.degree, f[(2, 1)], f[(1, 2)], len(f), list(f), f.at((1, 2)), str(f.slope("y"))]
['2x^2y - y^3', 3, 2, 0, 2, [((2, 1), 2), ((0, 3), -1)], -4, '2x^2 - 3y^2']
>>> [str((X * X - Y * Y).over(X + Y)), (X.power(3) * (X + Y)).order_of(X), str((-f).cleared()), str(f.led((Y, X)))]
['x - y', 3, '2x^2y - y^3', '-x^3 + 2xy^2']
>>> [Form.read(5, 3, "x^2 + 3yz").table, str(f - f), (f - f).degree]
[{(0, 1, 1): 3, (2, 0, 0): 1}, '0', None]
>>> [str(product_of(3, 2, (linear(3, (1, 1)), linear(3, (1, 2))))), str(determinant_of(((X, Y), (Y, X))))]
['x^2 + 2y^2', 'x^2 - y^2']
"""

PLANE = """
>>> [line_of(0, (-2, 4, 6)), line_of(5, (0, 2, 4)), is_line(0, (1, -1001, 0)), meet(0, (1, 0, 0), (1, -1, 2)), join(7, (1, 2, 3), (0, 1, 6)), is_on(2, (1, 1, 0), (1, 1, 1))]
[(1, -2, -3), (0, 1, 2), False, (0, 2, 1), (1, 4, 4), True]
>>> [BRAID.lines[:4], BRAID.points[:4], BRAID.many, BRAID.second, BRAID.rest, BRAID.squares, BRAID.factors, BRAID.is_bundle]
[((0, 0, 1), (0, 1, -1), (0, 1, 0), (1, -1, 0)), ((0, 0, 1), (0, 1, 0), (0, 1, 1), (1, 0, 0)), 6, 11, 6, 19, (1, -5, 6), False]
>>> [BRAID.lines_at((1, 1, 1)), BRAID.number_at((0, 1, 1)), BRAID.points_on((1, 0, 0)), BRAID.points_on((1, 1, 1)), FIVE.rest, FAN.rest, FANO.rest]
[((0, 1, -1), (1, -1, 0), (1, 0, -1)), 2, ((0, 0, 1), (0, 1, 0), (0, 1, 1)), ((0, 1, -1), (1, -2, 1), (1, -1, 0), (1, 0, -1), (1, 1, -2), (2, -1, -1)), 6, 9, 8]
>>> FIVE.led(((1, 0, 0), (0, 1, 0), (0, 0, 2))).lines
((0, 0, 1), (0, 1, 0), (1, 0, 0), (2, 2, 1), (2, 4, 3))
>>> [list(each_line(2)) == list(FANO), BRAID.without_line((1, 0, 0)).rest, len(BRAID | FIVE)]
[True, 4, 8]
>>> BRAID.with_line((0, 1, 0))
raises InvalidOperation
"""

MODULO = """
>>> [bad_primes(lot) for lot in (BRAID, FIVE, PLUS)], keeps_points(PLUS, 2), keeps_points(PLUS, 3)
([(), (2, 3), (2,)], False, True)
>>> reduced(PLUS, 2) == FANO, reduced(PLUS, 2).rest, PLUS.rest, all_lines(2) == FANO
(True, 8, 9, True)
>>> [count_off(reduced(BRAID, prime)) for prime in (2, 3, 5, 7)], list(each_off(reduced(PLUS, 5)))
([0, 0, 6, 20], [(1, 1, 1), (1, 1, 2), (1, 2, 1), (1, 3, 3)])
>>> reduced(FAN, 3)
raises Refused(("fall", (1, -1, 0), (1, 2, 0)))
"""

MARKS = """
>>> EVEN = Marks(0, {(1, 0): 3, (0, 1): 3, (1, 1): 1, (1, -1): 1})
>>> SKEW = Marks(0, {(1, 0): 3, (0, 1): 3, (1, 1): 1, (1, 2): 1})
>>> TWOS = Marks(2, {(1, 0): 2, (0, 1): 2, (1, 1): 2})
>>> [degrees(marks) for marks in (EVEN, SKEW, TWOS, Marks(5, {}))], [count_pairs(EVEN, degree) for degree in (2, 3, 4, 5)], str(SKEW)
([(3, 5), (4, 4), (2, 4), (0, 0)], [0, 1, 2, 4], '4 spots, 8 in all, over 0')
>>> [[str(form) for form in pair] for pair in pairs_of(EVEN, 3)]
[['x^3', 'y^3']]
>>> FIRST = pairs_of(EVEN, 3)[0]
>>> SECOND = (Form(0, 2), Form(0, 2, {(2, 3): 1, (0, 5): -1}))
>>> FIFTH = (Form(0, 2, {(3, 2): 1}), Form(0, 2, {(2, 3): 1}))
>>> are_two(EVEN, (FIRST, SECOND)), [str(part) for part in told_by(EVEN, (FIRST, SECOND), FIFTH)], is_pair(EVEN, FIFTH[::-1])
(True, ['y^2', '1', '1'], False)
>>> [degrees(EVEN.raised((1, 1))), degrees(EVEN.raised((1, 2))), degrees(EVEN.lowered((1, 0))), EVEN.led(((1, 1), (0, 1))).spots]
[(4, 5), (4, 5), (3, 4), ((0, 1), (1, -2), (1, -1), (1, 0))]
"""

DIVISION = """
>>> THREE = Marks(0, {(1, 0): 2, (1, -1): 1, (1, 1): 1})
>>> [str(contact(THREE)[0]), contact(THREE)[1], [[str(form) for form in pair] for pair in divided(THREE)]]
['x^3', 1, [['x^4 - x^2y^2', '0'], ['x^3', 'y^3'], ['x^2', 'xy'], ['0', 'x^2 - y^2']]]
>>> turn_of(THREE), degrees_by_division(THREE), [[str(form) for form in pair] for pair in pairs_by_division(THREE)]
(2, (2, 2), [['x^2', 'xy'], ['0', 'x^2 - y^2']])
>>> HARMONIC = Marks(0, {(1, -1): 3, (1, 1): 3, (1, -2): 1, (2, -1): 1})
>>> [degrees_by_division(HARMONIC), turn_of(HARMONIC), [str(form) for form in pairs_by_division(HARMONIC)[0]], contact(HARMONIC)[1]]
[(3, 5), 4, ['5x^3 - 12x^2y + 15xy^2 - 4y^3', '-4x^3 + 15x^2y - 12xy^2 + 5y^3'], 72]
>>> PLAIN = (Form(0, 2, {(1, 0): 1}), Form(0, 2, {(0, 1): 1}))
>>> SIMPLE = Marks(0, {(1, 0): 1, (1, -1): 1, (1, 1): 1})
>>> [rest_at(SIMPLE, PLAIN, (1, 0)), rest_at(SIMPLE, PLAIN, (1, 2)), are_two(SIMPLE.raised((1, 0)), grown(SIMPLE, pairs_by_division(SIMPLE), (1, 0)))]
[1, 0, True]
>>> divided(Marks(0, {(0, 1): 2}))
raises Refused(("end",))
"""

PLACES = """
>>> X, Y, PLUS1, MINUS1 = (1, 0), (0, 1), (1, 1), (1, -1)
>>> [cross_ratio(0, (X, Y, PLUS1, MINUS1)), is_harmonic(0, (X, PLUS1, Y, MINUS1)), cross_ratio(5, (X, Y, (1, 1), (1, 2)))]
[(1, -1), False, (1, 2)]
>>> [gap_of_three(0, (2, 2, 2)), gap_of_three(2, (2, 2, 2)), gap_of_three(3, (3, 3, 2)), gap_of_three(7, (9, 2, 2))]
[0, 2, 2, 5]
>>> [degrees_by_counts(Marks(2, {X: 2, Y: 2, PLUS1: 2})), degrees_by_counts(Marks(0, {X: 2, Y: 2, PLUS1: 2, MINUS1: 1})), degrees_by_counts(Marks(0, {X: 3, Y: 3, PLUS1: 1, MINUS1: 1}))]
[(2, 4), (3, 4), None]
>>> FOUR = Marks(7, {X: 3, Y: 3, (1, 1): 1, (1, 2): 1})
>>> [is_special(FOUR), special_places(FOUR, (1, 2)), is_special(Marks(0, {X: 3, Y: 3, PLUS1: 1, MINUS1: 1}))]
[False, ((1, 6),), True]
>>> [widened(Marks(2, {X: 1, Y: 1, PLUS1: 1})).counts, [str(form) for form in widened_pair(2, (Form.read(2, 2, "x"), Form.read(2, 2, "y")))]]
[{(0, 1): 2, (1, 0): 2, (1, 1): 2}, ['x^2', 'y^2']]
"""

ROWS = """
>>> [[count_killing(lot, k) for k in range(6)] for lot in (BRAID, FIVE, FAN)], far_count(BRAID, 5), list(each_count(FIVE))
([[0, 0, 1, 4, 9, 16], [0, 0, 0, 4, 10, 18], [0, 0, 1, 3, 6, 12]], 16, [0, 0, 0, 4])
>>> [least_degree(lot) for lot in (BRAID, FIVE, PLUS, FANO)], [count_rows(BRAID, k) for k in range(4)]
([2, 3, 3, 2], [0, 1, 4, 10])
>>> squares = (Form.read(0, 3, "x^2"), Form.read(0, 3, "y^2"), Form.read(0, 3, "z^2"))
>>> q, rest = parted(BRAID, (0, 0, 1), squares)
>>> is_tangent(BRAID, squares), str(q), [str(form) for form in rest], killing_rows(BRAID, (0, 0, 1), 2) == (rest,)
(True, 'z', ['x^2 - xz', 'y^2 - yz', '0'], True)
>>> [str(form) for form in led_row(0, squares, ((1, 1, 0), (0, 1, 0), (0, 0, 1)))]
['x^2 - 2xy + 2y^2', 'y^2', 'z^2']
"""

SLOPES = """
>>> TRI = Lot(0, ((1, 0, 0), (0, 1, 0), (0, 0, 1)))
>>> X, Y, NIL = Form.read(0, 3, "x"), Form.read(0, 3, "y"), Form(0, 3)
>>> [str(one) for one in slopes(TRI)], is_relation(TRI, (X, -Y, NIL)), is_relation(TRI, plain(0)), str(factor_of(TRI, plain(0)))
(['yz', 'xz', 'xy'], True, False, '3')
>>> str(factor_of(TRI, (X, NIL, NIL))), [str(one) for one in relation_of(TRI, (X, NIL, NIL))]
('1', ['2x', '-y', '-z'])
>>> [count_relations(TRI, degree) for degree in range(4)], [count_relations(BRAID, degree) for degree in range(5)]
([0, 2, 6, 12], [0, 0, 1, 4, 9])
>>> [count_left(TRI, degree) for degree in range(5)], [count_left(FIVE, degree) for degree in range(4, 9)], FIVE.squares
([1, 3, 3, 3, 3], [12, 12, 10, 10, 10], 10)
>>> relation_of(Lot(3, TRI.lines), plain(3))
raises InvalidOperation
"""

FREE = """
>>> [is_free(lot) for lot in (FAN, PLUS)], [degrees_of(lot) for lot in (BRAID, FIVE, FANO, Lot(0, ((1, 2, 3),)))]
([False, True], [(2, 3), None, (2, 4), (0, 0)])
>>> def powers(degree):
...     return tuple([Form.read(0, 3, letter).power(degree) for letter in ("x", "y", "z")])
>>> TWO = (powers(2), powers(3))
>>> [are_free_rows(BRAID, TWO), are_free_rows(BRAID, (powers(2), powers(4))), are_free_rows(BRAID, free_rows(BRAID)), number_of_rows(BRAID, TWO), number_of_rows(BRAID, TWO[::-1])]
[True, False, True, -1, 1]
>>> q, u, v, scale = told_by_rows(BRAID, TWO, powers(4))
>>> [str(q), str(u), str(v), scale, row_made(BRAID, TWO, (q, u, v)) == powers(4)]
['xyz', '-xy - xz - yz', 'x + y + z', 1, True]
>>> are_free_rows(reduced(BRAID, 2), reduced_rows(BRAID, TWO, 2))
True
>>> free_rows(FIVE)
raises Refused(('not free',))
"""

PRESSED = """
>>> [degrees_on(BRAID, line) for line in ((1, 0, 0), (1, 1, 0), (1, 5, 7))], [gap(FIVE, line) for line in ((1, 0, 0), (1, -1, 0), (1, 5, 7))], [degrees_on(FAN, line) for line in ((1, 0, 0), (0, 0, 1))]
([(2, 3), (2, 3), (2, 3)], [3, 2, 2], [(2, 4), (1, 5)])
>>> [left_out(0, line) for line in ((1, 5, 7), (1, 4, 0), (1, 0, 0))], spot_of(0, (0, 0, 1), (3, -1, 0)), marks_on(FAN, (1, 0, 0)).counts
([2, 1, 0], (1, 3), {(0, 1): 1, (1, 0): 4, (3, 1): 1})
>>> triples_on(FIVE, (0, 1, 2))
{(0, 1): ((0, -1, 1), (0, 2, 0)), (1, 0): ((2, 0, 0),), (2, 1): ((2, 1, 1), (2, 1, 3))}
>>> LINEAR = Form(0, 2, {(1, 0): 2, (0, 1): 1})
>>> [is_pressed(FIVE, (0, 1, 2), (Form(0, 2), form)) for form in (LINEAR, LINEAR * Form(0, 2, {(0, 1): 1}))], [bar_on(BRAID, (1, 1, 0)), count_pressed(FIVE, (1, 5, 7), 2)]
([False, True], [None, 2])
>>> [str(form) for form in press(BRAID, (1, 1, 0), (Form(0, 3, {(1, 0, 0): 1}), Form(0, 3, {(0, 1, 0): 1}), Form(0, 3, {(0, 0, 1): 1})))]
['0', '0']
"""

DEEDS = """
>>> [whole_degrees(lot) for lot in (BRAID, FIVE, FAN, PLUS, FANO)], [free_by_points(lot) for lot in (BRAID, FIVE, FAN, PLUS, FANO)]
([(2, 3), None, (3, 3), (3, 3), (2, 4)], [True, False, False, True, True])
>>> [sorted(point_counts(lot).values()) for lot in (BRAID, FAN, PLUS)], points_paper(FIVE), free_lines(PLUS)
([[3, 3, 3, 3, 3, 3], [3, 3, 3, 3, 3, 6, 6], [3, 3, 3, 3, 4, 4, 4]], ('odd',), ((0, 1, 1), (1, 0, 1), (1, 1, 0)))
>>> [is_points_paper(FAN, ("not free", (0, 0, 1))), is_points_paper(FAN, ("not free", (1, 0, 0))), is_points_paper(BRAID, ("free", (1, 1, 0))), is_points_paper(BRAID, ("free", (1, 2, 3)))]
[True, False, True, False]
>>> [degrees_without(BRAID, (1, 0, 0)), degrees_without(PLUS, (1, 0, 0)), degrees_without(PLUS, (1, 1, 0)), degrees_with(BRAID, (1, 1, 0)), degrees_with(BRAID, (1, 2, 3))]
[(2, 2), None, (2, 3), (3, 3), None]
>>> degrees_without(FAN, (0, 0, 1))
raises Refused(("not free",))
"""

GENERATORS = """
>>> GRID = Lot(0, ((0, 0, 1), (0, 1, 0), (0, 1, -1), (0, 1, 1), (1, 0, 0), (1, 0, -1)))
>>> [generator_degrees(lot) for lot in (BRAID, FIVE, GRID, GRID.without_line((0, 0, 1)))], [relation_degrees(lot) for lot in (BRAID, FIVE, GRID.without_line((0, 0, 1)))]
([(2, 3), (3, 3, 3, 3), (2, 3), (2, 3, 3)], [(), (4, 4), (4,)])
>>> degrees_left(GRID, (0, 0, 1)), degrees_left(GRID, (1, 0, 0)), degrees_left(PLUS, (1, 1, 1)), degrees_left(PLUS, (1, 1, 0))
((2, 3, 3), (1, 3), (3, 3, 3), (2, 3))
>>> rows = generators(BRAID)
>>> are_generators(BRAID, rows[::-1]), are_generators(BRAID, rows + rows[:1]), is_told_by_generators(BRAID, rows, rows[0], told_by_generators(BRAID, rows, rows[0]))
(True, False, True)
"""

CHAINS = """
>>> [modular_points(lot) for lot in (BRAID, PLUS, FIVE)], len(modular_points(FANO)), is_modular(BRAID, (0, 1, 1))
([((0, 0, 1), (0, 1, 0), (1, 0, 0), (1, 1, 1)), (), ()], 7, False)
>>> [degrees_by_point(BRAID, (1, 1, 1)), degrees_by_point(FANO, (1, 1, 1)), missing_join(BRAID, (1, 1, 1)), is_missing_join(BRAID, (0, 1, 1), ((0, 0, 1), (1, -1, 0)))]
[(2, 3), (2, 4), None, True]
>>> history_by_point(BRAID, (0, 0, 1))
((0, 1, 0), (1, -1, 0), (1, 0, 0), (0, 0, 1), (0, 1, -1), (1, 0, -1))
>>> [is_history(BRAID, BRAID.lines), is_history(BRAID, ((1, 0, 0), (0, 1, 0), (1, 0, -1), (0, 1, -1), (0, 0, 1), (1, -1, 0))), history(FIVE)]
[True, False, None]
>>> CUBES = Lot(7, ((0, 1, 3), (0, 1, 5), (0, 1, 6), (1, 0, 3), (1, 0, 5), (1, 0, 6), (1, 3, 0), (1, 5, 0), (1, 6, 0)))
>>> [history(CUBES), is_history(PLUS, history(PLUS)), [len(list(each_free_part(BRAID, many))) for many in (3, 4, 5, 6)], len(list(each_free_part(FIVE, 4)))]
[None, True, [20, 12, 6, 1], 0]
>>> degrees_by_point(BRAID, (0, 1, 1))
raises InvalidOperation
"""

WEBS = """
>>> RING = Web(((1, 2), (3, 4), (2, 3), (1, 4)))
>>> [RING.ties, RING.lot_over(0).lines, open_ring(RING), order_of_points(RING), web_degrees(RING)]
[((1, 2), (1, 4), (2, 3), (3, 4)), ((0, 0, 1), (0, 1, -1), (1, -1, 0), (1, 0, 0)), (1, 2, 3, 4), None, None]
>>> ALL = Web.full(POINTS)
>>> [ALL.lot_over(0) == BRAID, web_degrees(ALL), web_degrees(ALL.without_tie((1, 2))), is_order_of_points(ALL, (4, 2, 3, 1)), web_degrees(Web.full((1, 2, 3))), Web.full((1, 2)).is_whole]
[True, (2, 3), (2, 2), True, (0, 2), False]
>>> [signed_lot(3, ((1, 2),), ((1, 2),), (3,)).lines, signed_lot(0, ((1, 2), (1, 3), (2, 3)), (), (1, 2, 3)) == BRAID]
[((0, 0, 1), (1, 1, 0), (1, 2, 0)), True]
>>> Web(((2, 1),))
raises InvalidWeb
"""

COUNTED = """
>>> TRI = Lot(0, ((1, 0, 0), (0, 1, 0), (0, 0, 1)))
>>> SOME = {(1, 0, 0): 2, (0, 1, 0): 1, (0, 0, 1): 3}
>>> are_counted_free(TRI, SOME, counted_paper(TRI, SOME)), sum_of_products(TRI, SOME), [count_counted(TRI, SOME, degree) for degree in range(4)]
(True, 11, [0, 1, 4, 10])
>>> local_marks(TRI, SOME, (0, 0, 1)).counts, local_degrees(TRI, SOME, (0, 0, 1)), local_degrees(TRI, SOME, (1, 1, 0))
({(0, 1): 1, (1, 0): 2}, (1, 2), (0, 3))
>>> euler_marks(TRI, SOME, (1, 0, 0)).counts
{(0, 1): 3, (1, 0): 1}
>>> TWICE = dict([(line, 1) for line in BRAID.lines])
>>> TWICE[(1, 0, 0)] = 2
>>> sum_of_products(BRAID, TWICE), local_degrees(BRAID, TWICE, (0, 0, 1)), euler_marks(BRAID, TWICE, (1, 0, 0)).counts
(16, (2, 2), {(0, 1): 2, (1, -1): 1, (1, 0): 2})
>>> counted_paper(FIVE, dict([(line, 1) for line in FIVE.lines])), lowered_counts(BRAID, TWICE, (0, 1, 0))[0].many
(None, 5)
>>> sum_of_products(TRI, {(1, 0, 0): 4, (0, 1, 0): 1, (0, 0, 1): 1})
raises InvalidOperation
"""

PROMISES = """
>>> [does_hold(BRAID, ("free",)), does_hold(BRAID, ("degrees", 2, 3)), does_hold(FAN, ("degrees", 3, 3)), does_hold(BRAID, ("modular", (1, 1, 1)))]
[True, True, False, True]
>>> [paper_against(BRAID, ("degrees", 1, 4)), paper_against(FAN, ("most", 4)), paper_against(FANO, ("free",))]
[('rest', 6), ('point', (0, 0, 1)), None]
"""

DESKS = """
>>> desk, plane = Desk(BRAID), (1, 2, 4)
>>> [desk.promise(("free",)), desk.promise(("free",)), desk.would((("put", plane),)), desk.version]
[True, False, (('free',),), 1]
>>> [desk.do((("put", plane), ("take", plane), ("put", (1, 1, -1)))), desk.lot.rest, desk.promise(("degrees", 3, 3)), desk.would((("take", (1, 1, -1)),)), desk.undo(2), desk.lot == BRAID]
[2, 9, True, (('degrees', 3, 3),), 1, True]
"""

FORMATS = """
>>> [write_lot(BRAID), read_lot("2: 1 0 0, 0 1 1").lines, write_marks(Marks(0, {(1, 0): 2, (0, 1): 1})), read_marks("7:").total]
['0: 0 0 1, 0 1 -1, 0 1 0, 1 -1 0, 1 0 -1, 1 0 0', ((0, 1, 1), (1, 0, 0)), '0: 0 1*1, 1 0*2', 0]
>>> [form.degree for form in read_forms(3, 3, "x^2; 0; 2yz^2")]
[2, None, 3]
>>> read_lot("0: 1 0, 0 1 0")
raises ParseError(6)
>>> read_forms(0, 2, "x; z")
raises ParseError(3)
"""

SHELL = """
>>> shell = Shell(BRAID)
>>> shell.run(("promise free", "put 1,2,4", "degrees 1,2,4", "take 1,0", "put 2,0,0", "undo 1"))
('new', 'broken free', '2 3', 'wrong at 1', 'invalid', 'version 0')
>>> shell.run(("open", "put 1,1,-1", "undo", "end", "degrees", "take 1,2,4", "why degrees 2 3"))
('open', 'taken', 'invalid', 'version 1', '3 3', 'failed missing', 'many')
>>> len(shell), str(shell)
(13, 'shell over 0 at version 1, 0 promises')
"""


def names_of(*modules):
    """The names of some modules in one dict."""
    found = {}
    for module in (errors, *modules):
        found.update(vars(module))
    return found


class ExamplesTest(Checks, unittest.TestCase):
    maxDiff = None

    def test_numbers(self):
        check_examples(self, names_of(numbers), NUMBERS)

    def test_tables(self):
        check_examples(self, names_of(tables), TABLES)

    def test_forms(self):
        check_examples(self, names_of(forms, products), FORMS)

    def test_lines_and_lots(self):
        check_examples(self, names_of(lines, lots), LOTS + PLANE.lstrip("\n"))

    def test_lots_modulo_a_prime(self):
        check_examples(self, names_of(lots, primes), LOTS + MODULO.lstrip("\n"))

    def test_marks(self):
        check_examples(self, names_of(forms, marks, pairs), MARKS)

    def test_division(self):
        check_examples(self, names_of(forms, marks, pairs, euclid), DIVISION)

    def test_places(self):
        check_examples(self, names_of(forms, marks, places), PLACES)

    def test_rows(self):
        check_examples(self, names_of(forms, lots, rows), LOTS + ROWS.lstrip("\n"))

    def test_slopes(self):
        check_examples(self, names_of(forms, lots, rows, slopes), LOTS + SLOPES.lstrip("\n"))

    def test_free(self):
        check_examples(self, names_of(forms, lots, primes, free), LOTS + FREE.lstrip("\n"))

    def test_pressed(self):
        check_examples(self, names_of(forms, lots, press_lines, press_pairs), LOTS + PRESSED.lstrip("\n"))

    def test_deeds(self):
        check_examples(self, names_of(lots, deeds), LOTS + DEEDS.lstrip("\n"))

    def test_generators(self):
        check_examples(self, names_of(lots, generators), LOTS + GENERATORS.lstrip("\n"))

    def test_chains(self):
        check_examples(self, names_of(lots, chains), LOTS + CHAINS.lstrip("\n"))

    def test_webs(self):
        check_examples(self, names_of(lots, webs), LOTS + WEBS.lstrip("\n"))

    def test_counted(self):
        check_examples(self, names_of(lots, counted), LOTS + COUNTED.lstrip("\n"))

    def test_promises(self):
        check_examples(self, names_of(lots, promises), LOTS + PROMISES.lstrip("\n"))

    def test_desks(self):
        check_examples(self, names_of(lots, desks), LOTS + DESKS.lstrip("\n"))

    def test_formats(self):
        check_examples(self, names_of(lots, marks, formats), LOTS + FORMATS.lstrip("\n"))

    def test_shell(self):
        check_examples(self, names_of(lots, shell), LOTS + SHELL.lstrip("\n"))

    def test_what_is_said_of_the_lots(self):
        names = names_of(lots, primes, free, press_pairs)
        check_examples(self, names, LOTS)
        told = {"BRAID": (2, 3), "PLUS": (3, 3), "FANO": (2, 4), "FIVE": None, "FAN": None}
        for name, pair in told.items():
            lot = names[name]
            self.assertEqual(free.degrees_of(lot), pair, name)
            self.assertEqual(free.is_free(lot), pair is not None, name)
            for line in ((1, 0, 0), (0, 0, 1), (1, 1, 0), (1, 0, 1)):
                self.assertEqual(press_pairs.gap(lot, line) == 0, pair is not None, (name, line))
        self.assertEqual(names["FAN"].rest, 9)
        self.assertEqual(free.degrees_of(primes.reduced(names["FIVE"], 2)), (2, 2))

    def test_what_is_said_of_them(self):
        names = names_of(lots, primes)
        check_examples(self, names, LOTS)
        five = names["reduced"](names["FIVE"], 2)
        self.assertEqual([five.many, five.rest, names["count_off"](five)], [5, 4, 0])
        plus = names["PLUS"]
        doubles = [point for point in plus.points if plus.number_at(point) == 2]
        self.assertEqual([tuple(number % 2 for number in point) for point in doubles], [(1, 1, 1)] * 3)


if __name__ == "__main__":
    unittest.main()
