"""The forms of lines (section 17).

A form has a letter for each word behind the first one: N for any word, I for an integer. Where no line begins
with such a word, None stands for its form.
"""

from ringsorways.values import integer_of

DEED_FORMS = {"take": "N", "price": "NI", "lead": "NIII", "mark": "III"}


def read_form(words, form):
    """What these words tell, a tuple of the first one and of names and integers; None if they have not this form."""
    if form is None or len(form) != len(words) - 1 or "" in words:
        return None
    told = [word if letter == "N" else integer_of(word) for letter, word in zip(form, words[1:])]
    return None if None in told else (words[0], *told)


def deed_of(line):
    """The deed, told as in the module deeds, that this line without line feeds tells; None if it tells none."""
    words = line.split(" ")
    if words[0] == "put":
        # Whatever stands behind the first blank, as long as it is words.
        return ("put", " ".join(words[1:])) if len(words) > 1 and "" not in words else None
    told = read_form(words, DEED_FORMS.get(words[0]))
    if told is not None and told[0] == "lead":
        return told[:3] + ((told[3], told[4], 1),)
    if told is not None and told[0] == "mark":
        return ("mark", told[1:])
    return told


def line_of(deed):
    """The line that tells this deed."""
    if deed[0] == "lead":
        _, name, end, (x, y, _) = deed
        return f"lead {name} {end} {x} {y}"
    if deed[0] == "mark":
        return "mark " + words_of(deed[1])
    return " ".join([str(part) for part in deed])


def words_of(numbers):
    """These numbers as words parted by blanks."""
    return " ".join([str(number) for number in numbers])
