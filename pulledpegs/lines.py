"""The lines of the text of a room."""

from pulledpegs.walls import wall_text


def cord_line(name, cord):
    """The line that tells a named cord."""
    return " ".join(["cord", name] + [f"{peg}:{winds}" for peg, winds in cord])


def promise_line(promise):
    """The line that tells a promise."""
    word, name, last = promise
    if word in ("keeps", "falls"):
        return " ".join(["promise", word, name] + [str(peg) for peg in last])
    return f"promise {word} {name} {last}"


def room_text(wall, names, promises):
    """The text of a room with a wall, pairs of names and cords, and promises."""
    lines = [wall_text(wall)] + [cord_line(name, cord) for name, cord in names]
    return "\n".join(lines + [promise_line(promise) for promise in promises])
