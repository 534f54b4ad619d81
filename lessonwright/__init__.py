"""Lessonwright: learners by questions and examples."""
