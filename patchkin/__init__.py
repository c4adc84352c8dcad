"""Patchkin: texts kept by patches that stores take from one another in any order."""
