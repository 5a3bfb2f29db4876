"""The one text that a file has."""


def text_of(file):
    """The bytes of the file's text."""
    lines = [" ".join(["holes", str(file.holes)])]
    for field in file.fields:
        lines.append(field_line(field))
        lines.extend([code_line(code) for code in field.codes])
    return [ord(sign) for sign in "\n".join(lines)]


def field_line(field):
    return " ".join(["field", field.name, "asked", str(field.asked)])


def code_line(code):
    return " ".join(["code", code.name, "holes", str(code.holes), "cost", str(code.cost)])
