"""The parts of a net: how a row of each is told, in a text and as a tuple."""

STATIONS = 0
TYPES = 1
CLASSES = 2
FLIGHTS = 3
TAILS = 4
FARES = 5

# The first words of the forms, part by part.
FORMS = ("station", "type", "classes", "flight", "tail", "fare")

# The fields of the rows, part by part. The rows of classes are bare names, so they have none.
FIELDS = (
    ("name", "number", "number"),
    ("name", "number", "number"),
    (),
    ("name", "name", "name", "number", "number", "name", "number", "limits"),
    ("name", "name", "names"),
    ("name", "name", "name", "name", "number", "number", "number", "number"),
)
