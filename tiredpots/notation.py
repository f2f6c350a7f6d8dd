"""The text of a book."""

from tiredpots.amounts import WORDS
from tiredpots.book import Book
from tiredpots.errors import BadLine, DyeError

# How many words the lines have, by their first word.
SIZES = {"kind": 3, "thirst": 3, "pot": 2, "cloth": 3, "dip": 3, "tell": 5, "some": 3}
FACT_WORDS = ("tell", "some")
# A number in a text has at most two digits.
NUMBERS = 100


def write_book(book):
    """Returns the text of a book."""
    return "".join([" ".join(words) + "\n" for words in _lines_of(book)])


def read_book(text):
    """Returns a new book, made by carrying out the lines of a text."""
    book = Book()
    *lines, rest = text.split("\n")
    for number, line in enumerate(lines, 1):
        words = line.split(" ")
        if not _has_form(words):
            raise BadLine(number)
        try:
            _carry_out(book, words)
        except DyeError as refusal:
            raise BadLine(number) from refusal
    if rest != "":
        raise BadLine(len(lines) + 1)
    return book


def _lines_of(book):
    """Returns a list of the lines of a book, each as a list of words."""
    return [
        *[["kind", name, hold] for name, hold in book.kinds()],
        *[["thirst", more, less] for more, less in book.thirsts()],
        *[["pot", name] for name in book.pots()],
        *[["cloth", name, kind] for name, kind in book.cloths()],
        *[["dip", cloth, pot] for cloth, pot in book],
        *[_fact_words(fact) for fact in book.facts()],
    ]


def _fact_words(fact):
    """Returns the words of the line of a fact."""
    first, *amounts = fact
    words = [first]
    for word, number in amounts:
        words.extend([word, str(number)])
    return words


def _has_form(words):
    """Tells whether the words of a line have one of the forms that lines have."""
    if "" in words or SIZES.get(words[0], 0) != len(words):
        return False
    return words[0] not in FACT_WORDS or all([_is_amount_text(words[at], words[at + 1])
                                         for at in range(1, len(words), 2)])


def _is_amount_text(word, digits):
    """Tells whether two words of a line are an amount."""
    return word in WORDS and digits in [str(number) for number in range(NUMBERS)]


def _carry_out(book, words):
    """Carries out a line on the book."""
    match words:
        case ["kind", name, hold]:
            book.add_kind(name, hold=hold)
        case ["thirst", more, less]:
            book.add_thirst(more, less)
        case ["pot", name]:
            book.add_pot(name)
        case ["cloth", name, kind]:
            book.add_cloth(name, kind)
        case ["dip", cloth, pot]:
            book.dip(cloth, pot)
        case ["tell", word, digits, other, others]:
            book.tell((word, int(digits)), (other, int(others)))
        case ["some", word, digits]:
            book.tell_some((word, int(digits)))
