"""[2.3], [2.4], [2.5]: runs, the coming of cells, idle pours."""

from spreadhues.errors import BadPour, BadScript
from spreadhues.pictures import Picture
from spreadhues.running import (
    Run, came_at, course_of, idle_pours, marks_seen, parting_of, poured, run_script, struck_idle,
)
from tests.helpers import (
    NO_NUMBERS, NO_SEQUENCES, Case, all_pictures, all_scripts, as_lists, naive_came, naive_parting, naive_run,
)

# a line 0 1 0 2 0 with marks at both ends, and a lonely cell
LINE = Picture([0, 1, 0, 2, 0, 1], [(0, 1), (1, 2), (2, 3), (3, 4)], [0, 4])
SCRIPT = ((0, 1), (1, 2), (1, 2), (0, 0), (1, 0))
MOMENTS = (
    ((0, 1), (0, 0)), ((0, 1), (1, 0)), ((0, 1), (1, 2)), ((0, 1), (1, 2)), ((0, 1), (0, 2)), ((0, 0), (0, 0)),
)


class Runs(Case):
    def test_parting_of(self):
        self.gives((0, 1), parting_of, LINE)
        self.gives((0, 1, 0, 1), parting_of, Picture([1] * 4, [(0, 2), (1, 3)], [0, 1, 2, 3]))
        self.gives((0, 0), parting_of, Picture([1] * 4, [(0, 2), (1, 3), (1, 2)], [3, 0]))
        self.gives((0,), parting_of, Picture([1], [], [0]))

    def test_poured(self):
        self.gives(Picture([1, 1, 0, 2, 0, 1], LINE.ties, LINE.marks), poured, LINE, (0, 1))
        self.gives(LINE, poured, LINE, [0, 0])
        patch = Picture([3, 3, 3, 4], [(0, 1), (1, 2), (2, 3)], [1])
        self.gives(Picture([9, 9, 9, 4], patch.ties, [1]), poured, patch, (0, 9))

    def test_wrong_pours(self):
        for thing in (*NO_SEQUENCES, (), (0,), (0, 1, 1)):
            self.fails(BadPour, ("pour",), poured, LINE, thing)
        for thing in (-1, 2, *NO_NUMBERS):
            self.fails(BadPour, ("mark",), poured, LINE, (thing, 100))
        for thing in (-1, 100, *NO_NUMBERS):
            self.fails(BadPour, ("colour",), poured, LINE, (0, thing))

    def test_run_script(self):
        due = Run(Picture([0, 0, 0, 0, 0, 1], LINE.ties, LINE.marks), MOMENTS)
        self.gives(due, run_script, LINE, SCRIPT)
        run = run_script(LINE, as_lists(SCRIPT))
        self.same(run.moments, MOMENTS)
        self.same(run.course, ((0, 1),) * 5 + ((0, 0),))
        self.same(run.seen, ((0, 0), (1, 0), (1, 2), (1, 2), (0, 2), (0, 0)))
        self.same(len(run), 6)
        self.same(tuple(run), MOMENTS)
        self.same(tuple(parting for parting, colours in run), run.course)

    def test_courses_and_colours_alone(self):
        run = run_script(LINE, SCRIPT)
        self.gives(run.course, course_of, LINE, SCRIPT)
        self.gives(run.seen, marks_seen, LINE, SCRIPT)

    def test_the_empty_script(self):
        self.gives(Run(LINE, MOMENTS[:1]), run_script, LINE, ())
        self.gives(((0, 1),), course_of, LINE, ())
        self.gives(((0, 0),), marks_seen, LINE, ())
        self.gives((0, None, None, None, 0, None), came_at, LINE, ())
        self.gives((), idle_pours, LINE, ())
        self.gives((), struck_idle, LINE, ())

    def test_marks_in_one_patch_from_the_beginning(self):
        picture = Picture([5, 5, 6, 5], [(0, 1), (1, 2), (2, 3)], [0, 1, 3])
        self.gives((((0, 0, 2), (5, 5, 5)), ((0, 0, 2), (6, 6, 5)), ((0, 0, 0), (5, 5, 5))),
                   lambda *given: run_script(*given).moments, picture, ((1, 6), (0, 5)))

    def test_four_marks_and_twelve_pours(self):
        star = Picture([0, 1, 2, 3, 4], [(4, k) for k in range(4)], [0, 1, 2, 3])
        script = tuple((k % 4, 4 - k % 3) for k in range(12))
        self.assertEqual(len(run_script(star, script)), 13)
        due = tuple(moment[:2] for moment in naive_run(star.colours, star.ties, star.marks, script))
        self.same(run_script(star, script).moments, due)

    def test_a_picture_of_700_cells(self):
        line = Picture([k % 2 for k in range(700)], [(k, k + 1) for k in range(699)], [0, 699])
        script = tuple((0, k % 2) for k in range(1, 13))
        due = naive_came(naive_run(line.colours, line.ties, line.marks, script), 700)
        self.same(came_at(line, script), due)

    def test_a_run_is_a_result(self):
        moments = [[(0,), (1,)]]
        run = Run(LINE, moments)
        self.assertIs(run.moments, moments)
        self.assertIs(run.picture, LINE)
        same = run_script(LINE, SCRIPT)
        self.assertTrue(same == run_script(LINE, SCRIPT))
        self.assertFalse(same != run_script(LINE, SCRIPT))
        for other in (Run(LINE, same.moments), Run(same.picture, MOMENTS[:1]), None, MOMENTS):
            self.assertTrue(same != other)
            self.assertFalse(same == other)

    def test_what_is_passed_in_stays(self):
        run_script(LINE, SCRIPT)
        self.same(LINE.colours, (0, 1, 0, 2, 0, 1))


class Scripts(Case):
    def test_wrong_scripts(self):
        for action in (run_script, course_of, marks_seen, came_at, idle_pours, struck_idle):
            for thing in (*NO_SEQUENCES, ((0, 0),) * 13):
                self.fails(BadScript, (0, "many"), action, LINE, thing)
            for thing in (None, (0,), (0, 1, 2), 5):
                self.fails(BadScript, (1, "pour"), action, LINE, [(0, 0), thing, None])
            for thing in (-1, 2, *NO_NUMBERS):
                self.fails(BadScript, (1, "mark"), action, LINE, [(0, 0), (thing, 100), None])
            for thing in (-1, 100, *NO_NUMBERS):
                self.fails(BadScript, (1, "colour"), action, LINE, [(0, 0), (1, thing), None])


class Coming(Case):
    def test_came_at(self):
        self.gives((0, 1, 4, 2, 0, None), came_at, LINE, SCRIPT)

    def test_marks_into_which_nothing_is_poured_count(self):
        picture = Picture([0, 1, 1, 2], [(1, 2), (2, 3)], [0, 1])
        self.gives((0, 0, 0, None), came_at, picture, ((0, 2),))
        self.gives((0, 0, 0, None), came_at, picture, ())


class Idle(Case):
    def test_idle_pours(self):
        self.gives((2,), idle_pours, LINE, SCRIPT)
        self.gives(((0, 1), (1, 2), (0, 0), (1, 0)), struck_idle, LINE, SCRIPT)
        self.gives((0, 2, 4), idle_pours, LINE, ((0, 0), (0, 1), (0, 1), (0, 0), (1, 0)))

    def test_idle_by_another_marks_pour(self):
        picture = Picture([5, 5], [(0, 1)], [0, 1])
        self.gives((1, 2), idle_pours, picture, ((0, 7), (1, 7), (0, 7), (1, 8)))


class AllSmallPictures(Case):
    """Each function of the module against runs told cell by cell."""

    def check(self, picture, script):
        moments = naive_run(picture.colours, picture.ties, picture.marks, script)
        run = run_script(picture, script)
        self.same(run.moments, tuple(moment[:2] for moment in moments))
        self.same(run.picture, Picture(moments[-1][2], picture.ties, picture.marks))
        came = naive_came(moments, len(picture))
        self.same(came_at(picture, script), came)
        idle = tuple(
            k for k, (mark, colour) in enumerate(script) if moments[k][2][picture.marks[mark]] == colour
        )
        self.same(idle_pours(picture, script), idle)
        struck = struck_idle(picture, script)
        self.same(struck, tuple(pour for k, pour in enumerate(script) if k not in idle))
        short = run_script(picture, struck)
        self.same(short.picture, run.picture)
        self.same(short.moments, tuple(moment for k, moment in enumerate(run.moments) if k - 1 not in idle))
        self.same(idle_pours(picture, struck), ())
        self.check_coming(moments, came)

    def check_coming(self, moments, came):
        """What [2.4] says of cells ahead of and behind their coming, and that patches only grow."""
        for cell, first in enumerate(came):
            until = len(moments) if first is None else first
            for moment in range(until):
                self.assertEqual(moments[moment][2][cell], moments[0][2][cell])
            for moment in range(until, len(moments)):
                self.assertIn(moments[moment][2][cell], moments[moment][1])
        for before, behind in zip(moments, moments[1:]):
            for mark, lead in enumerate(before[0]):
                self.assertEqual(behind[0][mark], behind[0][lead])
            self.assertTrue(before[3] <= behind[3])

    def test_three_cells(self):
        for marks in ([0], [2, 0], [1, 2, 0]):
            for picture in all_pictures(3, 2, marks):
                self.same(parting_of(picture), naive_parting(picture.colours, picture.ties, marks))
                for script in all_scripts(len(marks), 3, 2):
                    self.check(picture, script)

    def test_four_cells(self):
        script = ((0, 1), (1, 0), (0, 2), (1, 2), (0, 0))
        for picture in all_pictures(4, 3, [0, 3]):
            self.check(picture, script)

    def test_one_pour_after_another(self):
        for picture in all_pictures(4, 2, [3, 1]):
            now = picture
            for pour in ((0, 1), (1, 0), (1, 1)):
                now = poured(now, pour)
            self.same(now, run_script(picture, ((0, 1), (1, 0), (1, 1))).picture)
