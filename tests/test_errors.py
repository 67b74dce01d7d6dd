"""Point [2] and the interface's errors: the refusals."""

import unittest

from helper import FIELDS, JUNK, REFUSALS
from webintoweb import errors
from webintoweb.errors import WebError


class Classes(unittest.TestCase):
    def test_each_class_is_straight_under_the_base(self):
        self.assertEqual(WebError.__bases__, (ValueError,))
        for kind in REFUSALS:
            self.assertEqual(kind.__bases__, (WebError,), kind)

    def test_there_are_no_other_classes(self):
        found = {thing for thing in vars(errors).values() if isinstance(thing, type)}
        self.assertEqual(found, set(REFUSALS) | {WebError})

    def test_each_is_taken_by_itself_by_the_base_and_by_valueerror_alone(self):
        for kind in REFUSALS:
            for catcher in (kind, WebError, ValueError):
                with self.assertRaises(catcher):
                    raise kind(*FIELDS[kind])
            for other in REFUSALS:
                self.assertEqual(issubclass(kind, other), kind is other)


class Fields(unittest.TestCase):
    def things(self):
        return [[], [0, [1]], (), (0, (1,)), None, True, False, 0, 10 ** 199, "", "a b"] + list(JUNK)

    def test_the_fields_are_the_very_things(self):
        things = self.things()
        for kind in REFUSALS:
            names = FIELDS[kind]
            for k in range(len(things)):
                made_of = [things[(k + j) % len(things)] for j in range(len(names))]
                refusal = kind(*made_of)
                for name, thing in zip(names, made_of):
                    self.assertIs(getattr(refusal, name), thing, (kind, name))

    def test_the_fields_are_set_on_each_object_alone(self):
        one = errors.NoText([1], "a")
        other = errors.NoText([2], "b")
        self.assertEqual((one.row, one.word, other.row, other.word), ([1], "a", [2], "b"))

    def test_no_thing_is_looked_at(self):
        class Blind:
            """Whatever asks it anything fails."""

            def refuse(self, *things):
                raise AssertionError("looked at")

            __eq__ = __lt__ = __le__ = __gt__ = __ge__ = __len__ = __iter__ = __bool__ = refuse
            __repr__ = __str__ = __int__ = __index__ = __getitem__ = __contains__ = __hash__ = refuse

        for kind in REFUSALS:
            things = [Blind() for name in FIELDS[kind]]
            refusal = kind(*things)
            for name, thing in zip(FIELDS[kind], things):
                self.assertIs(getattr(refusal, name), thing)

    def test_a_paper_refused_by_path_and_word_alone_has_the_number_0(self):
        refusal = errors.NoPaper((1, 2), "shape")
        self.assertEqual((refusal.path, refusal.word, refusal.number), ((1, 2), "shape", 0))

    def test_no_level_is_made_of_nothing(self):
        self.assertIsInstance(errors.NoLevel(), WebError)
        self.assertEqual(vars(errors.NoLevel()), {})


if __name__ == "__main__":
    unittest.main()
