"""Pulledpegs: pictures hung by cords about pegs, and what falls when pegs are pulled."""
