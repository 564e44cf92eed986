"""[7.1]: wishes."""

from spreadhues.errors import BadWish
from spreadhues.pictures import Picture
from spreadhues.wishes import check_wish, wish_holds
from tests.helpers import Case, all_pictures, all_wishes, as_lists, naive_holds, wrong_wishes

PICTURE = Picture([0, 1, 0, 2], [(0, 1), (1, 2)], [0, 2, 3])


class Check(Case):
    def test_all_four_kinds(self):
        for wish in all_wishes(4, 3, 3):
            self.gives(wish, check_wish, PICTURE, wish)
        self.gives(("colour", 2, 99), check_wish, PICTURE, ("colour", 2, 99))

    def test_wrong_wishes(self):
        for action in (check_wish, wish_holds):
            for thing in wrong_wishes(4, 3):
                self.fails(BadWish, (thing,), action, PICTURE, thing)

    def test_the_error_bears_the_very_thing(self):
        for thing in (["one", 0, 0], None, {}):
            with self.assertRaises(BadWish) as caught:
                check_wish(PICTURE, thing)
            self.assertIs(caught.exception.wish, thing)

    def test_a_mark_alone_is_one_with_no_other(self):
        picture = Picture([0], [], [0])
        for wish in (("one", 0, 0), ("one", 0, 1), ("reached", 1), ("colour", 1, 0)):
            self.fails(BadWish, (wish,), check_wish, picture, wish)
        for wish in all_wishes(1, 1, 1):
            self.gives(True, wish_holds, picture, wish)

    def test_lists_that_change_later_have_no_effect(self):
        wish = ["one", 0, 1]
        told = check_wish(PICTURE, wish)
        wish[1] = 2
        self.same(told, ("one", 0, 1))


class Holds(Case):
    def test_examples(self):
        self.gives(False, wish_holds, PICTURE, ("all one",))
        self.gives(False, wish_holds, PICTURE, ("one", 0, 1))
        self.gives(True, wish_holds, Picture([0, 0, 0, 2], PICTURE.ties, [0, 2, 3]), ("one", 0, 1))
        self.gives(True, wish_holds, PICTURE, ("colour", 2, 2))
        self.gives(False, wish_holds, PICTURE, ("colour", 2, 0))
        self.gives(True, wish_holds, PICTURE, ("reached", 3))
        self.gives(False, wish_holds, PICTURE, ("reached", 1))
        # one colour is not one patch
        self.gives(False, wish_holds, Picture([0, 0], [], [0]), ("all one",))
        self.gives(True, wish_holds, Picture([0, 0], [(0, 1)], [0]), ("all one",))

    def test_all_small_pictures(self):
        for cells in (1, 2, 3):
            for marks in ([0], [cells - 1, 0], [2, 0, 1]):
                if len(set(marks)) < len(marks) or len(marks) > cells:
                    continue
                for picture in all_pictures(cells, 2, marks):
                    for wish in all_wishes(cells, len(marks), 3):
                        due = naive_holds(picture.colours, picture.ties, marks, wish)
                        self.same(wish_holds(picture, wish), due)
                        self.same(wish_holds(picture, as_lists(wish)), due)

    def test_the_greatest_picture(self):
        picture = Picture([0] * 700, [(cell, cell + 1) for cell in range(699)], [0, 699])
        for wish in (("all one",), ("one", 0, 1), ("reached", 350), ("colour", 1, 0)):
            self.gives(True, wish_holds, picture, wish)
