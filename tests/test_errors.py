import unittest

from weightkeepers.errors import Fault, Malformed, NoText, Refused


class Errors(unittest.TestCase):
    def test_bases(self):
        self.assertEqual(Fault.__bases__, (ValueError,))
        for kind in (Malformed, Refused, NoText):
            self.assertEqual(kind.__bases__, (Fault,))

    def test_no_error_is_a_kind_of_another(self):
        errors = (Malformed("form"), Refused("large"), NoText(0))
        for error in errors:
            self.assertIsInstance(error, Fault)
            self.assertIsInstance(error, ValueError)
            caught = [kind for kind in (Malformed, Refused, NoText) if isinstance(error, kind)]
            self.assertEqual(caught, [type(error)])

    def test_fault_and_malformed_are_raised_with_and_without_text(self):
        for kind in (Fault, Malformed):
            for args in ((), ("a text",)):
                with self.assertRaises(kind):
                    raise kind(*args)

    def test_reason_is_kept(self):
        for reason in ("inverse", "large", "length", "a"):
            self.assertEqual(Refused(reason).reason, reason)
            self.assertEqual(Refused(reason=reason).reason, reason)

    def test_place_is_kept(self):
        for at in (0, 1, 17, 10 ** 20):
            self.assertEqual(NoText(at).at, at)
            self.assertEqual(NoText(at=at).at, at)

    def test_attributes_belong_to_each_object(self):
        first, second = Refused("inverse"), Refused("zero")
        self.assertEqual((first.reason, second.reason), ("inverse", "zero"))
        one, two = NoText(1), NoText(2)
        self.assertEqual((one.at, two.at), (1, 2))
        for kind, name in ((Refused, "reason"), (NoText, "at")):
            self.assertFalse(hasattr(kind, name))

    def test_arguments_are_needed(self):
        for kind in (Refused, NoText):
            with self.assertRaises(TypeError):
                kind()

    def test_a_raised_error_keeps_its_attribute(self):
        with self.assertRaises(Fault) as caught:
            raise Refused("many")
        self.assertEqual(caught.exception.reason, "many")
        with self.assertRaises(Fault) as caught:
            raise NoText(4)
        self.assertEqual(caught.exception.at, 4)


if __name__ == "__main__":
    unittest.main()
