"""[1.8], [1.9]: texts of pictures, squares and scripts, written and read."""

from spreadhues.errors import BadPicture, BadSquares, BadText
from spreadhues.pictures import Picture
from spreadhues.picturetext import (
    picture_text, read_picture, read_script, read_squares, script_text, squares_text,
)
from spreadhues.squares import Squares
from tests.helpers import Case, all_pictures

NO_STRINGS = (None, 5, True, b"cells 0", ["cells 0"], ("cells 0",), {})
# words that are no number, where a number is due
NO_NUMBER_WORDS = ("", "a", "-1", "+1", "1.0", "01", "00", "0000", "12345", "1_0", "\u0661", "\u00b2", "1\t", "1\r",
                   "0x1", "1-", "1,", "\uff11", "1-1", "1,1", "1:1")
NO_COUPLE_WORDS = ("", "1", "1{0}", "{0}1", "{0}", "1{0}1{0}1", "1{0}{0}1", "01{0}1", "1{0}01", "1{0}a", "1;1",
                   "+1{0}1", "1{0}12345", "12345{0}1", "\u0661{0}1", "1{0}-1", "1{0}1\r", "1{1}1")


class Writing(Case):
    def test_pictures(self):
        picture = Picture([0, 10, 0], [(2, 1), (1, 0)], [0, 2])
        self.gives("cells 0 10 0\nties 0-1 1-2\nmarks 0 2", picture_text, picture)

    def test_a_picture_without_ties(self):
        self.gives("cells 7\nties\nmarks 0", picture_text, Picture([7], [], [0]))

    def test_squares(self):
        squares = Squares([[0, 1, 0], [9, 99, 4]], [(0, 0), (1, 2)])
        self.gives("level 0 1 0\nlevel 9 99 4\nmarks 0,0 1,2", squares_text, squares)

    def test_scripts(self):
        self.gives("0:3 1:2", script_text, ((0, 3), (1, 2)))
        self.gives("2:99", script_text, ((2, 99),))
        self.gives("", script_text, ())


class ReadingPictures(Case):
    def test_what_is_written_is_read(self):
        for picture in all_pictures(3, 2, [2, 0]):
            self.same(read_picture(picture_text(picture)), picture)
        ties = [(a, b) for a in range(699, 630, -1) for b in range(a)][:2000]
        great = Picture([99] * 700, ties, [699, 698, 697, 696])
        self.assertEqual(len(great.ties), 2000)
        self.same(read_picture(picture_text(great)), great)

    def test_ties_in_any_order_and_sense_and_several_times(self):
        due = Picture([0, 1, 2], [(0, 1), (1, 2)], [0])
        self.gives(due, read_picture, "cells 0 1 2\nties 2-1 1-0 1-2 0-1 2-1\nmarks 0")

    def test_no_string_and_a_text_that_is_too_long(self):
        for thing in NO_STRINGS:
            self.fails(BadText, (0,), read_picture, thing)
        long_one = "cells 0\nties\nmarks 0\n" + "x" * 20000
        self.fails(BadText, (0,), read_picture, long_one)
        self.fails(BadText, (3,), read_picture, long_one[:20000])

    def test_20000_signs(self):
        text = "cells" + " 0" * 700 + "\nties" + " 600-601" * 2000 + "\nmarks 0"
        self.assertLess(len(text), 20000)
        self.same(read_picture(text).ties, ((600, 601),))
        padded = "cells" + " 1000" * 3998 + " 99" + "\nx"
        self.same(len(padded), 20000)
        self.fails(BadText, (1,), read_picture, padded)
        self.fails(BadText, (0,), read_picture, padded + "x")

    def test_first_words(self):
        rows = ["cells 0 0", "ties 0-1", "marks 0"]
        heads = ["cells", "ties", "marks"]
        for index in range(3):
            for head in ("", "cell", "Cells", "cells:", " cells", "level", *(heads[:index] + heads[index + 1:])):
                wrong = list(rows)
                wrong[index] = head + rows[index][len(heads[index]):]
                self.fails(BadText, (index,), read_picture, "\n".join(wrong))
            wrong = list(rows)
            wrong[index] = ""
            self.fails(BadText, (index,), read_picture, "\n".join(wrong))

    def test_words_of_cells_and_marks(self):
        for word in NO_NUMBER_WORDS:
            for row in (f"cells {word}", f"cells 0 {word}", f"cells {word} 0"):
                self.fails(BadText, (0,), read_picture, f"{row}\nties\nmarks 0")
            for row in (f"marks {word}", f"marks 0 {word}", f"marks {word} 0"):
                self.fails(BadText, (2,), read_picture, f"cells 0\nties\n{row}")

    def test_words_of_ties(self):
        for word in NO_COUPLE_WORDS:
            word = word.format("-", ",")
            for row in (f"ties {word}", f"ties 0-1 {word}", f"ties {word} 0-1"):
                self.fails(BadText, (1,), read_picture, f"cells 0 0\n{row}\nmarks 0")

    def test_a_row_lacks(self):
        self.fails(BadText, (0,), read_picture, "")
        self.fails(BadText, (1,), read_picture, "cells 0")
        self.fails(BadText, (2,), read_picture, "cells 0\nties")
        self.fails(BadText, (1,), read_picture, "cells 0\n")

    def test_a_fourth_row(self):
        for row in ("", "marks 0", "cells 0"):
            self.fails(BadText, (3,), read_picture, f"cells 0\nties\nmarks 0\n{row}")
        self.fails(BadText, (1,), read_picture, "cells 0\ntied\nmarks 0\n")

    def test_rows_are_separated_by_line_feeds_alone(self):
        for feed in ("\r\n", "\r", "\x0b", "\x0c", "\u2028", "\x85"):
            self.fails(BadText, (0,), read_picture, feed.join(["cells 0", "ties", "marks 0"]))

    def test_four_digits_are_let(self):
        self.fails(BadPicture, (0, "colour"), read_picture, "cells 9999\nties\nmarks 0")
        self.fails(BadPicture, (0, "tie"), read_picture, "cells 0\nties 0-9999\nmarks 0")
        self.fails(BadPicture, (0, "mark"), read_picture, "cells 0\nties\nmarks 1000")

    def test_then_what_the_picture_raises(self):
        self.fails(BadPicture, (0, "cells"), read_picture, "cells\nties\nmarks")
        self.fails(BadPicture, (1, "colour"), read_picture, "cells 0 100 100\nties 0-0\nmarks")
        self.fails(BadPicture, (1, "tie"), read_picture, "cells 0 0\nties 0-1 1-1\nmarks")
        self.fails(BadPicture, (0, "ties"), read_picture, "cells 0 0\nties" + " 0-1" * 2001 + "\nmarks 0")
        self.fails(BadPicture, (0, "marks"), read_picture, "cells 0 0\nties\nmarks")
        self.fails(BadPicture, (1, "mark"), read_picture, "cells 0 0\nties\nmarks 1 1")
        self.fails(BadText, (2,), read_picture, "cells 100\nties 0-0\nmarks 00")


class ReadingSquares(Case):
    def test_what_is_written_is_read(self):
        for squares in (
            Squares([[0]], [(0, 0)]), Squares([[0, 1], [99, 10]], [(1, 1), (0, 0), (1, 0), (0, 1)]),
            Squares([[50] * 20] * 35, [(34, 19)]), Squares([[3] * 60], [(0, 59)]), Squares([[3]] * 60, [(59, 0)]),
        ):
            self.gives(squares, read_squares, squares_text(squares))

    def test_no_string_and_a_text_that_is_too_long(self):
        for thing in NO_STRINGS:
            self.fails(BadText, (0,), read_squares, thing)
        self.fails(BadText, (2,), read_squares, ("level 0\nmarks 0,0\n" + "x" * 20000)[:20000])
        self.fails(BadText, (0,), read_squares, ("level 0\nmarks 0,0\n" + "x" * 20000)[:20001])

    def test_row_0_is_a_level(self):
        for text in ("", "marks 0,0", "marks", "levels 0\nmarks 0,0", "cells 0\nties\nmarks 0", "\nlevel 0\nmarks 0,0"):
            self.fails(BadText, (0,), read_squares, text)

    def test_words(self):
        for word in NO_NUMBER_WORDS:
            self.fails(BadText, (1,), read_squares, f"level 0\nlevel {word}\nmarks 0,0")
            self.fails(BadText, (0,), read_squares, f"level 0 {word}\nlevel 0 0\nmarks 0,0")
        for word in NO_COUPLE_WORDS:
            word = word.format(",", "-")
            for row in (f"marks {word}", f"marks 0,0 {word}", f"marks {word} 0,0"):
                self.fails(BadText, (1,), read_squares, f"level 0 0\n{row}")

    def test_first_words(self):
        for head in ("", "mark", "Marks", "cells", "ties", " marks", "levels"):
            self.fails(BadText, (2,), read_squares, f"level 0\nlevel 0\n{head} 0,0\nmarks 0,0")

    def test_the_marks_lack(self):
        self.fails(BadText, (1,), read_squares, "level 0")
        self.fails(BadText, (2,), read_squares, "level 0\nlevel 0")
        self.fails(BadText, (2,), read_squares, "level 0\nlevel 0\n")

    def test_a_row_behind_the_marks(self):
        for row in ("", "level 0", "marks 0,0"):
            self.fails(BadText, (2,), read_squares, f"level 0\nmarks 0,0\n{row}")

    def test_then_what_the_squares_raise(self):
        self.fails(BadSquares, (0, "level"), read_squares, "level\nmarks 0,0")
        self.fails(BadSquares, (1, "level"), read_squares, "level 0\nlevel 0 0\nmarks")
        self.fails(BadSquares, (0, "colour"), read_squares, "level 100\nmarks")
        self.fails(BadSquares, (0, "levels"), read_squares, "level 0\n" * 61 + "marks 0,0")
        self.fails(BadSquares, (0, "squares"), read_squares, ("level" + " 0" * 60 + "\n") * 12 + "marks 0,0")
        self.fails(BadSquares, (0, "places"), read_squares, "level 0\nmarks")
        self.fails(BadSquares, (1, "place"), read_squares, "level 0 0\nmarks 0,1 0,2 0,1")


class ReadingScripts(Case):
    def test_pours(self):
        self.gives(((0, 3), (1, 2)), read_script, "0:3 1:2")
        self.gives((), read_script, "")
        self.gives(((9999, 1000),), read_script, "9999:1000")
        self.gives(((0, 0),) * 5000, read_script, " ".join(["0:0"] * 5000))
        for script in ((), ((3, 99),), ((0, 1), (0, 1), (2, 10))):
            self.same(read_script(script_text(script)), script)

    def test_number_of_the_first_wrong_word(self):
        for word in NO_COUPLE_WORDS:
            word = word.format(":", "-")
            self.fails(BadText, (1,), read_script, f"0:3 {word} 1:2 {word}")
            self.fails(BadText, (2,), read_script, f"0:3 0:4 {word}")
            if word:
                self.fails(BadText, (0,), read_script, word)

    def test_blanks(self):
        self.fails(BadText, (0,), read_script, " ")
        self.fails(BadText, (0,), read_script, " 0:1")
        self.fails(BadText, (1,), read_script, "0:1 ")
        self.fails(BadText, (1,), read_script, "0:1  0:1")
        self.fails(BadText, (0,), read_script, "0:1\n0:1")
        self.fails(BadText, (0,), read_script, "0:1\t0:1")
        self.fails(BadText, (0,), read_script, "\n")

    def test_no_string_and_a_text_that_is_too_long(self):
        for thing in NO_STRINGS:
            self.fails(BadText, (0,), read_script, thing)
        text = "0:0 " * 5000
        self.fails(BadText, (5000,), read_script, text)
        self.fails(BadText, (0,), read_script, text + "0")
        self.same(len(read_script("10:0" + " 0:0" * 4999)), 5000)
        self.fails(BadText, (0,), read_script, "10:10" + " 0:0" * 4999)
