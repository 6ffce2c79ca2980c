"""The refusals of the program, each a class of its own."""

# A refused name may be anything at all, so no message shows it: showing a thing can fail by itself.


class BookError(ValueError):
    """What is handed in is not what the document asks for."""


class NoBook(BookError):
    """No book can be made of these persons."""

    def __init__(self, what, who):
        super().__init__("no book can be made of these persons")
        self.what = what
        self.who = who


class NoAmount(BookError):
    """A thing that is no amount."""


class NoStep(BookError):
    """A thing that is no step."""


class NoText(BookError):
    """A thing that is not the text of anything."""

    def __init__(self, row):
        super().__init__("this is not such a text")
        self.row = row


class NoVector(BookError):
    """A thing that is no vector of the book."""


class NoRow(BookError):
    """A thing that is no row for a desk."""


class NoBack(BookError):
    """A number of deeds that cannot be taken back."""


class NoSuch(LookupError):
    """Nothing goes by this name or number."""

    def __init__(self, who):
        super().__init__("nothing goes by this name")
        self.who = who


class NoRing(LookupError):
    """A person who is in no ring."""

    def __init__(self, who):
        super().__init__("this person is in no ring")
        self.who = who


class Full(RuntimeError):
    """A book that takes no further note."""

    def __init__(self, many):
        super().__init__("the book takes no further note")
        self.many = many


class TooMuch(RuntimeError):
    """A step of a greater amount than it may be of."""

    def __init__(self, who, most):
        super().__init__("the amount of the step is too great")
        self.who = who
        self.most = most


class Short(ArithmeticError):
    """A person whose cash would be below 0."""

    def __init__(self, who):
        super().__init__("the cash of this person would be below 0")
        self.who = who


class Behind(ArithmeticError):
    """A person of whom more has fallen already."""

    def __init__(self, who):
        super().__init__("more has fallen of this person already")
        self.who = who
