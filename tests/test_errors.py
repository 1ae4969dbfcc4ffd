import unittest

from stronggens import errors

PLAIN = """BadDegree BadPermutation BadExponent BadPoint NotText NotMember NotSubgroup NotNormal NotTransitive BadNumber
BadPrime BadPartition BadSet BadPoints BadCounts BadColoring NotInvariant NotRegular BadTransversal NotChain BadMethod
BadTable BadPrimes NotPrimePower NotSylow NotAbelian NotExtending NotComplement BadMap BadGset BadTuple BadGraph
BadTarget BadName BadLoad""".split()
FIELDS = {
    "BadGroup": ("index",), "BadWord": ("index",), "BadProgram": ("index",), "BadPrefix": ("index",),
    "BadPresentation": ("index",), "BadWords": ("index",), "BadImages": ("index",), "BadRow": ("index",),
    "BadMatrix": ("index",), "InvalidText": ("place",), "TooMany": ("most",), "InvalidCommand": ("line", "column"),
}


class TestErrors(unittest.TestCase):
    def test_all_classes_are_direct_subclasses(self):
        self.assertEqual(errors.GroupError.__bases__, (ValueError,))
        for name in PLAIN + list(FIELDS):
            self.assertEqual(getattr(errors, name).__bases__, (errors.GroupError,), name)
            self.assertEqual(getattr(errors, name).__module__, "stronggens.errors")

    def test_there_are_no_other_classes(self):
        found = {name for name, value in vars(errors).items() if isinstance(value, type)}
        self.assertEqual(found, {"GroupError", *PLAIN, *FIELDS})

    def test_fields(self):
        for name, fields in FIELDS.items():
            values = tuple(range(7, 7 + len(fields)))
            self.assertEqual(vars(getattr(errors, name)(*values)), dict(zip(fields, values)))
            self.assertEqual(vars(getattr(errors, name)(**dict(zip(fields, values)))), dict(zip(fields, values)))

    def test_plain_ones_have_no_fields(self):
        for name in PLAIN:
            self.assertEqual(vars(getattr(errors, name)()), {})


if __name__ == "__main__":
    unittest.main()
